import PyProof.Rows.All
import Wide.All
import OpenK.AllK
import Wide.FinOn
import KE.GoesEnum
import HandS.ForMost
import HandS.ForExc
import HandS.Wide
import HandS.IsInst
import HandS.ExcIs
import HandS.Defaults
import PySem.Challenge.RW_scopestore_k02_fractions_reckoned
set_option Elab.async false
set_option linter.all false
set_option maxRecDepth 100000
set_option exponentiation.threshold 10000
namespace SS
open PySem PySem.Spec PyProof.Rows L2
section
/-! ### enumerate over a tuple: one new pair a turn -/
def ItE (K : PySem.W.Frag) (a : Addr) : It where
  go := fun i H => ∃ (ys : List V) (y : V), SqT K H a ys ∧ ys[i]? = some y
  yld := fun i H v H' => ∃ T y, v = .ref T ∧ H T = none ∧ H' = upd H T (.tup [.int (i : Nat), y]) ∧ ∀ ys, SqT K H a ys → ys[i]? = some y
  stop := fun i H => ∃ ys : List V, SqT K H a ys ∧ ys.length = i
theorem turnE {P : Program} {w : World} {K : PySem.W.Frag} {es : List Expr} {kk : Nat} {tp : Pos} (a e q : Addr) :
    Turn P w K (.Tuple es kk tp) (ItE K a) [e, q] e (fun i h => (∃ old, IsEnum h e q ((i : Nat) : Int) old) ∧ h.IsTupleIter q a i ∧ e ≠ q ∧ a ≠ q ∧ e ≠ a) where
  mem := by simp
  obj := fun i h st b hb => by
    obtain ⟨⟨old, h1⟩, ⟨o, h2, _, h3⟩, _⟩ := st
    rcases (show b = e ∨ b = q by simpa using hb) with z | z
    · subst z
      exact ⟨_, h1, fun v w => nomatch w⟩
    · subst z
      exact ⟨o, h2, fun v w => by rw [h3] at w; cases w⟩
  keep := fun i h h' st k => by
    obtain ⟨⟨old, h1⟩, h2, h3⟩ := st
    exact ⟨⟨old, k e (by simp) _ h1⟩, h2.at (fun o z => k q (by simp) o z), h3⟩
  item := by
    intro X e1 e2 e3 calm i pins s σ H E I free st go
    subst e1 e2 e3
    obtain ⟨⟨old, h1⟩, h2, n1, n2, n3⟩ := st
    obtain ⟨ys, y, sq, gy⟩ := go
    obtain ⟨us, rl, at_, _⟩ := I.tuple sq
    obtain ⟨u, gu, ru⟩ := rl.get gy
    have lt : i < us.toArray.size := by
      have z := (List.getElem?_eq_some_iff.mp gu).1
      simpa using z
    have le : e < s.heap.objs.size := Heap.lt_size h1
    have lq : q < s.heap.objs.size := by
      obtain ⟨_, z, _⟩ := h2
      exact Heap.lt_size z
    refine wpAny_pyNext_enum_itemD (Draws.tuple (A := X.A.in1) (I.ok.hd calm) q a n2 us.toArray) h1
      ⟨h2, at_⟩ lt n1 (by simp [n1, n3]) fun u' h' tk pu ho st' hT hsz hk => ?_
    have eu : u' = u := by
      have z : us[i]? = some u' := by simpa using pu
      rw [gu] at z
      exact (Option.some.inj z).symm
    subst eu
    refine ⟨_, rfl, wpAny_letOwnedTupleGo_enum
      (s := { s with heap := h', toks := tk + 1 }) ho fun h2' he' sb => ?_⟩
    have T2 : h2'.get? s.heap.objs.size = some { cls := .type "tuple", data := .seq #[.int i tk, u'] } :=
      (sb.2 _ (Nat.ne_of_gt le)).trans hT
    have nw : ObjOk X.prog X.w (upd H s.heap.objs.size (.tup [.int (i : Nat), y])) h2' s.heap.objs.size (.tup [.int (i : Nat), y]) :=
      ⟨(by show 2 ≤ sizeLine; decide), [.int i tk, u'], .cons ⟨_, rfl⟩ (.cons ru .nil), ⟨_, T2, rfl, _, rfl⟩⟩
    have J : Inv X pins σ (upd H s.heap.objs.size (.tup [.int (i : Nat), y])) { s with heap := h2', toks := tk + 1 } :=
      I.turnedNew (ch := [e, q]) (fun b ob nb z => (sb.2 b (fun c => nb (by simp [c]))).trans (hk b ob (fun c => nb (by simp [c])) (fun c => nb (by simp [c])) z)) free (Nat.le_refl _) nw
    refine ⟨.ref s.heap.objs.size, _, J, rfl, ⟨_, y, rfl, I.hok.fresh (Nat.le_refl _), rfl, fun zs hz => by rw [I.tuple_inj hz sq]; exact gy⟩,
      ⟨⟨u', ?_⟩, st'.1.at (fun o z => (sb.2 q (Ne.symm n1)).trans z), n1, n2, n3⟩, fun b hb => ?_⟩
    · rw [show ((i + 1 : Nat) : Int) = (i : Int) + 1 by omega]
      exact he'
    · have lb : b < s.heap.objs.size := by
        rcases (show b = e ∨ b = q by simpa using hb) with z | z
        · rw [z]; exact le
        · rw [z]; exact lq
      rw [upd_ne (Nat.ne_of_lt lb)]
      exact (free b hb).1
  done := by
    intro X e1 e2 e3 calm i pins s σ H E I free st stp
    subst e1 e2 e3
    obtain ⟨⟨old, h1⟩, h2, n1, n2, n3⟩ := st
    obtain ⟨ys, sq, ly⟩ := stp
    obtain ⟨us, rl, at_, _⟩ := I.tuple sq
    obtain ⟨f0, f1, f2, f3, f4, f5⟩ := free q (by simp)
    have ll := rl.length
    have ei : us.toArray.size = i := by
      rw [List.size_toArray, ← ll]
      exact ly
    refine wpAny_pyNext_enum_endD (Draws.tuple (A := X.A.in1) (I.ok.hd calm) q a n2 us.toArray) h1 ⟨by rw [ei]; exact h2, at_⟩ fun h' ext => ?_
    exact ⟨rfl, I.turned (t' := s.toks) (fun b o hb z => ext b o hb z) f0 f1 f3 f4 f5⟩
  self := fun A i s Q E st h => by
    obtain ⟨⟨_, h1⟩, _⟩ := st
    exact wpAny_pyIter_enum h1 h

set_option maxHeartbeats 1000000 in
theorem meets_enumT (t : Addr) (items : Array Value) (n : Nat) (dct : Option Addr) (sl : Array (Option Value)) :
    Meets (Builtin.«enumerate.__new__» ⟨[.type "enumerate", .ref t], []⟩) (fun _ R s => s.heap.get? t = some { cls := .type "tuple", dict := dct, data := .seq items n, slots := sl } ∧
      R (.ok (.ret (.ref (s.heap.push { cls := .type "tuple_iterator", data := .fields #[.ref t, .int 0 0] }).objs.size)))
        { s with heap := (s.heap.push { cls := .type "tuple_iterator", data := .fields #[.ref t, .int 0 0] }).push { cls := .type "enumerate", data := .fields #[.none, .bool false, .ref s.heap.objs.size, rawInt 0, .none, .none] } }) :=
  .of_wp fun prog w A R s h => by
    obtain ⟨hp, g, d, tk, os⟩ := s
    obtain ⟨hl, h⟩ := h
    have hsub := sub_enumerate
    have hT : Heap.IsTuple (Shared.heap ⟨hp, g, d, tk, os⟩) t items := ⟨_, hl, rfl, n, rfl⟩
    wp_walk using AutoSeq1.wpAny_loadPart' hl
    refine wpAny_stack_any fun st => wpAny_pure ?_
    split
    · rename_i c _ _ _ _ _
      cases (c == Value.type "enumerate")
      · wp_walk using AutoSeq1.wpAny_loadPart' hl, wpAny_pyIter_tuple hT
        exact ⟨_, rfl, h⟩
      · wp_walk using AutoSeq1.wpAny_loadPart' hl, wpAny_pyIter_tuple hT
        exact ⟨_, rfl, h⟩
    · wp_walk using AutoSeq1.wpAny_loadPart' hl, wpAny_pyIter_tuple hT
      exact ⟨_, rfl, h⟩
theorem call_enumT {prog : Program} {w : World} {A : Around} {E : Value → Shared → Prop} {s : Shared} {t : Addr} {items : Array Value} {Q : Value → Shared → Prop} (hL : s.heap.IsTuple t items)
    (h : ∀ h', IsEnum h' (s.heap.objs.size + 1) s.heap.objs.size 0 .none → h'.IsTupleIter s.heap.objs.size t 0 →
      (∀ b o, s.heap.get? b = some o → h'.get? b = some o) → Q (.ref (s.heap.objs.size + 1)) { s with heap := h' }) :
    wpAny (model prog w) A (call (.type "enumerate") [.ref t]) Q E s := by
  obtain ⟨⟨c, dct, dt, sl⟩, hl, hc, n, hd⟩ := hL
  have hc' : c = .type "tuple" := hc
  have hd' : dt = .seq items n := hd
  subst hc' hd'
  refine callType_new F.called_enumerate (by decide) (F.typeCall_enumerate_1 _) (F.newCall_enumerate_1 _)
    (fun obj => F.args_object_init_2 obj _) F.entry_enumerate_new (meets_enumT t items n dct sl) ⟨hl, ?_⟩
  have z1 : (s.heap.push { cls := .type "tuple_iterator", data := .fields #[.ref t, .int 0 0] }).objs.size = s.heap.objs.size + 1 := Heap.size_push ..
  show _ ∧ _
  rw [z1]
  have en : IsEnum ((s.heap.push { cls := .type "tuple_iterator", data := .fields #[.ref t, .int 0 0] }).push
      { cls := .type "enumerate", data := .fields #[.none, .bool false, .ref s.heap.objs.size, rawInt 0, .none, .none] }) (s.heap.objs.size + 1) s.heap.objs.size 0 .none := by
    have z := Heap.get?_push_size (s.heap.push { cls := .type "tuple_iterator", data := .fields #[.ref t, .int 0 0] })
      (o := { cls := .type "enumerate", data := .fields #[.none, .bool false, .ref s.heap.objs.size, rawInt 0, .none, .none] }) rfl
    rw [z1] at z
    exact z
  exact ⟨⟨_, en, rfl⟩, h _ en ⟨_, Heap.get?_push_of_some _ (Heap.get?_push_size _ rfl), rfl, rfl⟩
    fun b o z => Heap.get?_push_of_some _ (Heap.get?_push_of_some _ z)⟩
def iEnT (K : PySem.W.Frag) (ta : TA) : TI := fun σ H R => ta σ H fun vs H1 => ∃ a ys, vs = [.ref a] ∧ SqT K H1 a ys ∧ R (ItE K a) H1
theorem pi_enT {X : Cx} {e : Expr} {ta : TA} {p pos tpos : Pos} {es : List Expr} {kk : Nat} (hg : Gl X "enumerate") (hm : X.mg "enumerate" = none) (ha : PA X [e] ta) (hs : starEach [e] X.env = [(false, eval e X.env)] := by rfl) :
    PI X (.Tuple es kk tpos) (.Call (.Name "enumerate" p) [e] [] pos) (iEnT X.K ta) := by
  refine ⟨fun pins s σ H R I h => ?_⟩
  refine Call_ (ld_blt I hg hm boot_enumerate (PyProof.Rows.callWith_type1
    (thn (ha.run pos pins s σ H _ I h) fun us s1 ⟨vs, H1, I1, r1, q1⟩ => ?_) hs rfl))
  obtain ⟨a, ys, ex, sq, q⟩ := q1
  subst ex
  cases r1 with
  | cons r rr =>
    cases rr
    cases r
    obtain ⟨us, rl, at_, _⟩ := I1.tuple sq
    have la : a < s1.heap.objs.size := by
      obtain ⟨_, z, _⟩ := at_
      exact Heap.lt_size z
    refine call_enumT (items := us.toArray) at_ fun h' he hit hk => wpAny_pyIter_enum he ?_
    have I2 : Inv X pins σ H1 { s1 with heap := h' } := I1.kept (t' := s1.toks) hk
    refine ⟨s1.heap.objs.size + 1, [s1.heap.objs.size + 1, s1.heap.objs.size], _, _, H1, rfl, I2,
      turnE a (s1.heap.objs.size + 1) s1.heap.objs.size, ⟨⟨.none, he⟩, hit, Nat.succ_ne_self _, Nat.ne_of_lt la, Nat.ne_of_gt (Nat.lt_succ_of_lt la)⟩, fun b hb => ?_, q⟩
    have lb : s1.heap.objs.size ≤ b := by
      rcases (show b = s1.heap.objs.size + 1 ∨ b = s1.heap.objs.size by simpa using hb) with z | z
      · rw [z]; exact Nat.le_add_right _ _
      · rw [z]; exact Nat.le_refl _
    exact I1.fpOk lb (I1.hok.fresh lb)
/-! ### // by a great divisor of either sign -/
def CDivG (_ j : Int) : Prop := j ≠ 0 ∧ j.natAbs.log2 < 9000
theorem op_fdivG {X : Cx} : OpR X (binaryOp .FloorDiv) (rI CDivG fun i j => .int (i.fdiv j)) :=
  opI fun i j _ _ _ _ _ hc q => floordiv_int hc.1 q (.inl (PyProof.noPylong_of_log2 hc.2))
end
end SS
namespace SS
def sgd (t b : Int) : Int := if b < 0 then -((Int.gcd t b : Nat) : Int) else ((Int.gcd t b : Nat) : Int)
def fr1 (t b : Int) : Int := t.fdiv (sgd t b)
def fr2 (t b : Int) : Int := b.fdiv (sgd t b)
theorem gcdP {t b : Int} (h : b ≠ 0) : 0 < Int.gcd t b := Nat.pos_of_ne_zero fun e => h (Int.gcd_eq_zero_iff.mp e).2
theorem sgd_abs (t b : Int) : (sgd t b).natAbs = Int.gcd t b := by
  unfold sgd
  split <;> omega
theorem sgd_ne {t b : Int} (h : b ≠ 0) : sgd t b ≠ 0 := fun e => by
  have := gcdP (t := t) h
  rw [← sgd_abs, e] at this
  exact absurd this (by decide)
theorem sgd_dvd1 (t b : Int) : sgd t b ∣ t := by
  rw [← Int.natAbs_dvd_natAbs, sgd_abs, ← Int.natCast_dvd_natCast, Int.dvd_natAbs]
  exact Int.gcd_dvd_left ..
theorem sgd_dvd2 (t b : Int) : sgd t b ∣ b := by
  rw [← Int.natAbs_dvd_natAbs, sgd_abs, ← Int.natCast_dvd_natCast, Int.dvd_natAbs]
  exact Int.gcd_dvd_right ..
theorem fr1_eq {t b : Int} (h : b ≠ 0) : fr1 t b * sgd t b = t := by
  obtain ⟨k, e⟩ := sgd_dvd1 t b
  have z : fr1 t b = k := by
    unfold fr1
    have q : t.fdiv (sgd t b) = (sgd t b * k).fdiv (sgd t b) := congrArg (·.fdiv (sgd t b)) e
    rw [q]
    exact Int.mul_fdiv_cancel_left _ (sgd_ne h)
  rw [z, Int.mul_comm]
  exact e.symm
theorem fr2_eq {t b : Int} (h : b ≠ 0) : fr2 t b * sgd t b = b := by
  obtain ⟨k, e⟩ := sgd_dvd2 t b
  have z : fr2 t b = k := by
    unfold fr2
    have q : b.fdiv (sgd t b) = (sgd t b * k).fdiv (sgd t b) := congrArg (·.fdiv (sgd t b)) e
    rw [q]
    exact Int.mul_fdiv_cancel_left _ (sgd_ne h)
  rw [z, Int.mul_comm]
  exact e.symm
theorem fr2_pos {t b : Int} (h : b ≠ 0) : 0 < fr2 t b := by
  have e := fr2_eq (t := t) h
  have g := gcdP (t := t) h
  unfold sgd at e
  by_cases c : b < 0
  · rw [if_pos c] at e
    refine Int.lt_of_not_ge fun z => ?_
    have : 0 ≤ fr2 t b * -((Int.gcd t b : Nat) : Int) := Int.mul_nonneg_of_nonpos_of_nonpos z (by omega)
    omega
  · rw [if_neg c] at e
    refine Int.lt_of_not_ge fun z => ?_
    have : fr2 t b * ((Int.gcd t b : Nat) : Int) ≤ 0 := Int.mul_nonpos_of_nonpos_of_nonneg z (by omega)
    omega
theorem fr_gcd {t b : Int} (h : b ≠ 0) : Int.gcd (fr1 t b) (fr2 t b) = 1 := by
  have g := gcdP (t := t) h
  have e : Int.gcd (fr1 t b * sgd t b) (fr2 t b * sgd t b) = Int.gcd t b := by rw [fr1_eq h, fr2_eq h]
  rw [Int.gcd_mul_right, sgd_abs] at e
  exact Nat.eq_of_mul_eq_mul_right g (by rw [e, Nat.one_mul])
theorem fr_cross {t b : Int} (h : b ≠ 0) : fr1 t b * b = t * fr2 t b := by
  have e1 := fr1_eq (t := t) h
  have e2 := fr2_eq (t := t) h
  calc fr1 t b * b = fr1 t b * (fr2 t b * sgd t b) := by rw [e2]
    _ = (fr1 t b * sgd t b) * fr2 t b := by rw [Int.mul_comm (fr2 t b), Int.mul_assoc]
    _ = t * fr2 t b := by rw [e1]
theorem fr1_le {t b : Int} (h : b ≠ 0) : (fr1 t b).natAbs ≤ t.natAbs := by
  have e := congrArg Int.natAbs (fr1_eq (t := t) h)
  rw [Int.natAbs_mul, sgd_abs] at e
  rw [← e]
  exact Nat.le_mul_of_pos_right _ (gcdP h)
theorem fr2_le {t b : Int} (h : b ≠ 0) : (fr2 t b).natAbs ≤ b.natAbs := by
  have e := congrArg Int.natAbs (fr2_eq (t := t) h)
  rw [Int.natAbs_mul, sgd_abs] at e
  rw [← e]
  exact Nat.le_mul_of_pos_right _ (gcdP h)
/-- one turn of the walk down -/
theorem gcd_turn {a b : Int} (ha : 0 ≤ a) (hb : 0 < b) : Int.gcd b (a % b) = Int.gcd a b := by
  obtain ⟨m, rfl⟩ := Int.eq_ofNat_of_zero_le ha
  obtain ⟨n, rfl⟩ := Int.eq_ofNat_of_zero_le (Int.le_of_lt hb)
  rw [← Int.natCast_emod]
  show Nat.gcd n (m % n) = Nat.gcd m n
  rw [Nat.gcd_comm n, ← Nat.gcd_rec, Nat.gcd_comm]
theorem gcd_end (a : Int) (h : 0 ≤ a) : ((Int.gcd a 0 : Nat) : Int) = a := by
  rw [Int.gcd_zero_right]
  omega
theorem gcd_abs (a b : Int) : Int.gcd (if a < 0 then -a else a) (if b < 0 then -b else b) = Int.gcd a b := by
  have n : ∀ x : Int, (if x < 0 then -x else x).natAbs = x.natAbs := fun x => by split <;> omega
  unfold Int.gcd
  rw [n, n]
end SS
namespace SS
theorem dvdCop {a b c : Int} (z : a ∣ b * c) (h : Int.gcd a b = 1) : a ∣ c := by
  rw [← Int.natAbs_dvd_natAbs] at z ⊢
  rw [Int.natAbs_mul] at z
  exact Nat.Coprime.dvd_of_dvd_mul_left h z
/-- in lowest terms there is one pair -/
theorem lowUniq {x y x' y' : Int} (hy : 0 < y) (hy' : 0 < y') (g : Int.gcd x y = 1) (g' : Int.gcd x' y' = 1) (e : x * y' = x' * y) : x = x' ∧ y = y' := by
  have d1 : y ∣ y' := dvdCop (b := x) ⟨x', by rw [e, Int.mul_comm]⟩ (by rw [Int.gcd_comm]; exact g)
  have d2 : y' ∣ y := dvdCop (b := x') ⟨x, by rw [← e, Int.mul_comm]⟩ (by rw [Int.gcd_comm]; exact g')
  have e2 : y = y' := Int.dvd_antisymm (Int.le_of_lt hy) (Int.le_of_lt hy') d1 d2
  refine ⟨?_, e2⟩
  rw [← e2] at e
  exact Int.eq_of_mul_eq_mul_right (Int.ne_of_gt hy) e
theorem frIs {x y t b : Int} (hb : b ≠ 0) (hy : 0 < y) (g : Int.gcd x y = 1) (e : x * b = t * y) : x = fr1 t b ∧ y = fr2 t b := by
  refine lowUniq hy (fr2_pos hb) g (fr_gcd hb) ?_
  have c := fr_cross (t := t) hb
  refine Int.eq_of_mul_eq_mul_right hb ?_
  calc x * fr2 t b * b = x * b * fr2 t b := by rw [Int.mul_assoc, Int.mul_comm (fr2 t b), ← Int.mul_assoc]
    _ = t * y * fr2 t b := by rw [e]
    _ = t * fr2 t b * y := by rw [Int.mul_assoc, Int.mul_comm y, ← Int.mul_assoc]
    _ = fr1 t b * b * y := by rw [c]
    _ = fr1 t b * y * b := by rw [Int.mul_assoc, Int.mul_comm b, ← Int.mul_assoc]
theorem gcdDvdMul {g k : Int} (h : g ≠ 0) : (g * k).fdiv g = k := Int.mul_fdiv_cancel_left _ h
theorem copDvd {a b c : Int} (h : Int.gcd a b = 1) (z : c ∣ b) : Int.gcd a c = 1 := by
  obtain ⟨k, rfl⟩ := z
  have q : Int.gcd a c ∣ Int.gcd a (c * k) := Int.gcd_dvd_gcd_mul_right_right a c k
  rw [h] at q
  exact Nat.dvd_one.mp q
theorem copDvdL {a b c : Int} (h : Int.gcd a b = 1) (z : c ∣ a) : Int.gcd c b = 1 := by
  rw [Int.gcd_comm] at h ⊢
  exact copDvd h z
theorem copMul {a b c : Int} (h1 : Int.gcd a b = 1) (h2 : Int.gcd a c = 1) : Int.gcd a (b * c) = 1 := by
  rw [Int.gcd_mul_right_right_of_gcd_eq_one h1]
  exact h2
theorem copMulL {a b c : Int} (h1 : Int.gcd a c = 1) (h2 : Int.gcd b c = 1) : Int.gcd (a * b) c = 1 := by
  rw [Int.gcd_mul_right_left_of_gcd_eq_one h1]
  exact h2
/-- both divided by their greatest divisor -/
theorem gcdParts {a b : Int} (h : b ≠ 0) : ∃ u v : Int, a = ((Int.gcd a b : Nat) : Int) * u ∧ b = ((Int.gcd a b : Nat) : Int) * v ∧ Int.gcd u v = 1 := by
  obtain ⟨u, hu⟩ := Int.gcd_dvd_left a b
  obtain ⟨v, hv⟩ := Int.gcd_dvd_right a b
  refine ⟨u, v, hu, hv, ?_⟩
  have g := gcdP (t := a) h
  have e : Int.gcd (((Int.gcd a b : Nat) : Int) * u) (((Int.gcd a b : Nat) : Int) * v) = Int.gcd a b := by rw [← hu, ← hv]
  rw [Int.gcd_mul_left] at e
  have e2 : Int.gcd a b * Int.gcd u v = Int.gcd a b * 1 := by
    rw [Nat.mul_one]
    exact e
  exact Nat.eq_of_mul_eq_mul_left g e2
theorem pos_ne' {a b : Int} (h1 : 0 < a) (h2 : 0 < b) : a * b ≠ 0 := Int.ne_of_gt (Int.mul_pos h1 h2)
theorem posMul {a b : Int} (ha : 0 < a) (h : 0 < a * b) : 0 < b := by
  refine Int.lt_of_not_ge fun z => ?_
  have : a * b ≤ 0 := Int.mul_nonpos_of_nonneg_of_nonpos (Int.le_of_lt ha) z
  omega
/-- the sum of two fractions by the divisor of their bottoms -/
def plD (d1 d2 : Int) : Int := ((Int.gcd d1 d2 : Nat) : Int)
def plT (n1 d1 n2 d2 : Int) : Int := n1 * d2.fdiv (plD d1 d2) + n2 * d1.fdiv (plD d1 d2)
def plG (n1 d1 n2 d2 : Int) : Int := ((Int.gcd (plT n1 d1 n2 d2) (plD d1 d2) : Nat) : Int)
theorem plus_long {n1 d1 n2 d2 : Int} (h1 : 0 < d1) (h2 : 0 < d2) (g1 : Int.gcd n1 d1 = 1) (g2 : Int.gcd n2 d2 = 1) :
    (plT n1 d1 n2 d2).fdiv (plG n1 d1 n2 d2) = fr1 (n1 * d2 + n2 * d1) (d1 * d2) ∧ d1.fdiv (plD d1 d2) * d2.fdiv (plG n1 d1 n2 d2) = fr2 (n1 * d2 + n2 * d1) (d1 * d2) := by
  obtain ⟨u, v, hu, hv, uv⟩ := gcdParts (a := d1) (b := d2) (Int.ne_of_gt h2)
  have s0 : 0 < plD d1 d2 := by
    have := gcdP (t := d1) (Int.ne_of_gt h2)
    unfold plD
    omega
  have hu : d1 = plD d1 d2 * u := hu
  have hv : d2 = plD d1 d2 * v := hv
  have e1 : d1.fdiv (plD d1 d2) = u := by
    have q : d1.fdiv (plD d1 d2) = (plD d1 d2 * u).fdiv (plD d1 d2) := congrArg (·.fdiv (plD d1 d2)) hu
    rw [q]
    exact gcdDvdMul (Int.ne_of_gt s0)
  have e2 : d2.fdiv (plD d1 d2) = v := by
    have q : d2.fdiv (plD d1 d2) = (plD d1 d2 * v).fdiv (plD d1 d2) := congrArg (·.fdiv (plD d1 d2)) hv
    rw [q]
    exact gcdDvdMul (Int.ne_of_gt s0)
  have eT : plT n1 d1 n2 d2 = n1 * v + n2 * u := by
    unfold plT
    rw [e1, e2]
  have eG : plG n1 d1 n2 d2 = ((Int.gcd (plT n1 d1 n2 d2) (plD d1 d2) : Nat) : Int) := rfl
  rw [e1]
  generalize plG n1 d1 n2 d2 = G at *
  generalize plT n1 d1 n2 d2 = T at *
  generalize plD d1 d2 = s at *
  have up : 0 < u := posMul s0 (by rw [← hu]; exact h1)
  have vp : 0 < v := posMul s0 (by rw [← hv]; exact h2)
  obtain ⟨t, s', ht, hs, ts⟩ := gcdParts (a := T) (b := s) (Int.ne_of_gt s0)
  rw [← eG] at ht hs
  have G0 : 0 < G := by
    have := gcdP (t := T) (Int.ne_of_gt s0)
    rw [eG]
    omega
  have sp : 0 < s' := posMul G0 (by rw [← hs]; exact s0)
  have f1 : T.fdiv G = t := by
    rw [ht]
    exact gcdDvdMul (Int.ne_of_gt G0)
  have f2 : d2.fdiv G = s' * v := by
    rw [hv, hs, Int.mul_assoc]
    exact gcdDvdMul (Int.ne_of_gt G0)
  rw [f1, f2]
  have tT : t ∣ T := ⟨G, by rw [ht, Int.mul_comm]⟩
  have c1 : Int.gcd t u = 1 := by
    refine copDvdL (a := T) ?_ tT
    rw [eT, Int.add_comm, Int.gcd_mul_right_add_left]
    refine copMulL ?_ (by rw [Int.gcd_comm]; exact uv)
    exact copDvd g1 ⟨s, by rw [hu, Int.mul_comm]⟩
  have c2 : Int.gcd t v = 1 := by
    refine copDvdL (a := T) ?_ tT
    rw [eT, Int.gcd_mul_right_add_left]
    refine copMulL ?_ uv
    exact copDvd g2 ⟨s, by rw [hv, Int.mul_comm]⟩
  refine frIs (pos_ne' h1 h2) (Int.mul_pos up (Int.mul_pos sp vp)) (copMul c1 (copMul ts c2)) ?_
  have E : n1 * d2 + n2 * d1 = s * (G * t) := by
    rw [← ht, eT, hu, hv, Int.mul_add]
    congr 1 <;> rw [Int.mul_left_comm]
  rw [E, hu, hv]
  have hs2 := hs
  generalize G = G at *
  grind
/-- the product of two fractions, one's top and the other's bottom made less -/
theorem times_long {n1 d1 n2 d2 : Int} (h1 : 0 < d1) (h2 : 0 < d2) (g1 : Int.gcd n1 d1 = 1) (g2 : Int.gcd n2 d2 = 1) :
    n1.fdiv ((Int.gcd n1 d2 : Nat) : Int) * n2.fdiv ((Int.gcd n2 d1 : Nat) : Int) = fr1 (n1 * n2) (d1 * d2) ∧ d1.fdiv ((Int.gcd n2 d1 : Nat) : Int) * d2.fdiv ((Int.gcd n1 d2 : Nat) : Int) = fr2 (n1 * n2) (d1 * d2) := by
  obtain ⟨u, v, hu, hv, uv⟩ := gcdParts (a := n1) (b := d2) (Int.ne_of_gt h2)
  obtain ⟨x, y, hx, hy, xy⟩ := gcdParts (a := n2) (b := d1) (Int.ne_of_gt h1)
  have a0 : 0 < ((Int.gcd n1 d2 : Nat) : Int) := by
    have := gcdP (t := n1) (Int.ne_of_gt h2)
    omega
  have b0 : 0 < ((Int.gcd n2 d1 : Nat) : Int) := by
    have := gcdP (t := n2) (Int.ne_of_gt h1)
    omega
  generalize ((Int.gcd n1 d2 : Nat) : Int) = a at *
  generalize ((Int.gcd n2 d1 : Nat) : Int) = b at *
  subst hu hv hx hy
  rw [gcdDvdMul (Int.ne_of_gt a0), gcdDvdMul (Int.ne_of_gt a0), gcdDvdMul (Int.ne_of_gt b0), gcdDvdMul (Int.ne_of_gt b0)]
  have vp : 0 < v := posMul a0 h2
  have yp : 0 < y := posMul b0 h1
  have uy : Int.gcd u y = 1 := copDvdL (copDvd g1 ⟨b, by rw [Int.mul_comm]⟩) ⟨a, by rw [Int.mul_comm]⟩
  have xv : Int.gcd x v = 1 := copDvdL (copDvd g2 ⟨a, by rw [Int.mul_comm]⟩) ⟨b, by rw [Int.mul_comm]⟩
  refine frIs (pos_ne' h1 h2) (Int.mul_pos yp vp) (copMul (copMulL uy xy) (copMulL uv xv)) ?_
  grind
end SS
namespace SS
open PySem PySem.Spec PyProof.Rows L2
/-! ### heaps -/
/-- all but st is as it was -/
def But (st : Addr) (H H' : Hp) : Prop := ∀ b o, b ≠ st → H b = some o → H' b = some o
theorem But.refl (st : Addr) (H : Hp) : But st H H := fun _ _ _ h => h
theorem But.trans {st : Addr} {H H1 H2 : Hp} (x : But st H H1) (y : But st H1 H2) : But st H H2 := fun b o n h => y b o n (x b o n h)
theorem Same.but {st : Addr} {H H' : Hp} (x : Same H H') : But st H H' := fun b o _ h => x b o h
theorem same_new {H : Hp} {p : Addr} {o : HO} (h : H p = none) : Same H (upd H p o) := fun b x e => by
  rw [upd_ne (ne_of_none e h)]
  exact e
theorem But.upd {st : Addr} {H : Hp} {o : HO} : But st H (upd H st o) := fun b x n e => by
  rw [upd_ne n]
  exact e
/-- the law's own state: its cells, where it stands, what is left, whether that is mixed -/
def StA (st c : Addr) (H : Hp) : Prop := ∃ (i n : Int) (f : Bool) (xs : List Int),
  H st = some (.lst [.ref c, .int i, .int n, .bl f]) ∧ H c = some (.lst (xs.map V.int)) ∧ xs.length ≤ 63 ∧ c ≠ st
theorem StA.same {st c : Addr} {H H' : Hp} (s : StA st c H) (x : Same H H') : StA st c H' := by
  obtain ⟨i, n, f, xs, h1, h2, h3, h4⟩ := s
  exact ⟨i, n, f, xs, x _ _ h1, x _ _ h2, h3, h4⟩
theorem StA.tup {st c p : Addr} {H : Hp} {xs : List V} (s : StA st c H) (h : H p = some (.tup xs)) : p ≠ st := fun e => by
  obtain ⟨i, n, f, ys, h1, _⟩ := s
  rw [e, h1] at h
  cases h
theorem StA.fresh {st c p : Addr} {H : Hp} (s : StA st c H) (h : H p = none) : p ≠ st := fun e => by
  obtain ⟨i, n, f, ys, h1, _⟩ := s
  rw [e, h1] at h
  cases h
theorem But.tup {st c p : Addr} {H H' : Hp} {xs : List V} (b : But st H H') (s : StA st c H) (h : H p = some (.tup xs)) : H' p = some (.tup xs) := b _ _ (s.tup h) h
/-- another object, made since, changes: the state stands -/
theorem StA.other {st c l : Addr} {H : Hp} {o : HO} (s : StA st c H) (h1 : l ≠ st) (h2 : l ≠ c) : StA st c (upd H l o) := by
  obtain ⟨i, n, f, xs, a1, a2, a3, a4⟩ := s
  exact ⟨i, n, f, xs, by rw [upd_ne h1.symm]; exact a1, by rw [upd_ne h2.symm]; exact a2, a3, a4⟩
theorem StA.fresh2 {st c p : Addr} {H : Hp} (s : StA st c H) (h : H p = none) : p ≠ c := fun e => by
  obtain ⟨i, n, f, ys, _, h1, _⟩ := s
  rw [e, h1] at h
  cases h
/-- a tuple (n, d) with d above 0 and few bits -/
def Fra (k : Nat) (H : Hp) (p : Addr) : Prop := ∃ n d : Int, H p = some (.tup [.int n, .int d]) ∧ 0 < d ∧ n.natAbs < 2 ^ k ∧ d.natAbs < 2 ^ k
theorem Fra.same {k : Nat} {p : Addr} {H H' : Hp} (s : Fra k H p) (x : Same H H') : Fra k H' p := by
  obtain ⟨n, d, h1, h2⟩ := s
  exact ⟨n, d, x _ _ h1, h2⟩
theorem Fra.but {k : Nat} {st c p : Addr} {H H' : Hp} (s : Fra k H p) (x : But st H H') (y : StA st c H) : Fra k H' p := by
  obtain ⟨n, d, h1, h2⟩ := s
  exact ⟨n, d, x.tup y h1, h2⟩
theorem Fra.mono {k j : Nat} {p : Addr} {H : Hp} (s : Fra k H p) (h : k ≤ j) : Fra j H p := by
  obtain ⟨n, d, h1, h2, h3, h4⟩ := s
  have z : 2 ^ k ≤ 2 ^ j := Nat.pow_le_pow_right (by decide) h
  exact ⟨n, d, h1, h2, Nat.lt_of_lt_of_le h3 z, Nat.lt_of_lt_of_le h4 z⟩
/-! ### a def of the module, as its callers know it -/
structure Cl (P : Program) (w : World) (K : PySem.W.Frag) (mg : Str → Option Value) (base : Heap) (CX : CXT) (k : Nat) (x : Str) (sp : Sp) (dvs : List V) : Prop where
  ex : ∃ (f : Addr) (fd : FuncData) (ps : List Str) (ds : List Value), FnOk P w K mg base CX k f fd ps sp ∧ mg x = some (.ref f) ∧ PySem.W.keepIn K (.ref f) = true ∧ Binds K fd ps ds ∧ Vals dvs ds
section
variable {X : Cx} {k j : Nat} {x : Str} {sp : Sp} {dvs : List V} {e : Expr} {es : List Expr} {t : TA} {p pos : Pos}
theorem pc0 (c : Cl X.prog X.w X.K X.mg X.base CX0 k x sp dvs) (hr : Room j X.A) (hk : k ≤ j) (ha : PA X (e :: es) t) (hg : Gl X x := by rfl)
    (hdb : (x == ("__debug__" : Str)) = false := by decide) (he : starEach (e :: es) X.env = (false, eval e X.env) :: starEach es X.env := by rfl) (hpl : (backTo pos (starEach es X.env)).any (·.1) = false := by rfl) :
    PE X (.Call (.Name x p) (e :: es) [] pos) (tCall sp dvs E0 t) := by
  obtain ⟨f, fd, ps, ds, F, gm, kp, b, d⟩ := c.ex
  exact pe_call F (hr.mono hk) hg gm kp b d pass0 ha hdb he hpl
theorem pcX (c : Cl X.prog X.w X.K X.mg X.base (L2.CX X.prog X.w) k x sp dvs) (hr : Room j X.A) (hk : k ≤ j) (ha : PA X (e :: es) t) (hg : Gl X x := by rfl)
    (hdb : (x == ("__debug__" : Str)) = false := by decide) (he : starEach (e :: es) X.env = (false, eval e X.env) :: starEach es X.env := by rfl) (hpl : (backTo pos (starEach es X.env)).any (·.1) = false := by rfl) :
    PE X (.Call (.Name x p) (e :: es) [] pos) (tCall sp dvs E0 t) := by
  obtain ⟨f, fd, ps, ds, F, gm, kp, b, d⟩ := c.ex
  exact pe_call F (hr.mono hk) hg gm kp b d passL ha hdb he hpl
/-- where what it raises is wished for: in a try, or let out of the def -/
theorem pcS {E : L2.St → XK} (c : Cl X.prog X.w X.K X.mg X.base (L2.CX X.prog X.w) k x sp []) (hr : Room j X.A) (hk : k ≤ j) (hx : ∀ σ, PassesAt (L2.CX X.prog X.w) X σ (E σ)) (ha : PA X (e :: es) t) (hg : Gl X x := by rfl)
    (hdb : (x == ("__debug__" : Str)) = false := by decide) (he : starEach (e :: es) X.env = (false, eval e X.env) :: starEach es X.env := by rfl) (hpl : (backTo pos (starEach es X.env)).any (·.1) = false := by rfl) :
    PE X (.Call (.Name x p) (e :: es) [] pos) (tCallS sp E t) := by
  obtain ⟨f, fd, ps, ds, F, gm, kp, b, d⟩ := c.ex
  cases d
  exact pe_callS F (hr.mono hk) hg gm kp b hx ha hdb he hpl
end
section
variable {P : Program} {w : World} {K : PySem.W.Frag} {mg : Str → Option Value} {base : Heap}
theorem Cl.mk0 {CX : CXT} {k : Nat} {x : Str} {sp : Sp} {f : Addr} {fd : FuncData} {ps : List Str} (F : FnOk P w K mg base CX k f fd ps sp) (g : mg x = some (.ref f)) (kp : PySem.W.keepIn K (.ref f) = true) (b : Binds K fd ps []) : Cl P w K mg base CX k x sp [] :=
  ⟨⟨f, fd, ps, [], F, g, kp, b, .nil⟩⟩
end
theorem small2 : 2 ≤ sizeLine := by decide
end SS
namespace SS
open PySem PySem.Spec PyProof.Rows L2
def topS (i : Nat) : Stmt := PySem.Challenge.pw_scopestore_k02_fractions_reckoned.main.body.getD i (.Pass ⟨0, 0, 0, 0⟩)
abbrev sCd : Stmt := topS 5
abbrev sFo : Stmt := topS 6
abbrev sAre : Stmt := topS 7
abbrev sPlus : Stmt := topS 8
abbrev sMinus : Stmt := topS 9
abbrev sTimes : Stmt := topS 10
abbrev sOver : Stmt := topS 11
abbrev sLess : Stmt := topS 12
abbrev sFresh : Stmt := topS 14
abbrev sMixed : Stmt := topS 15
abbrev sFill : Stmt := topS 16
abbrev sTake : Stmt := topS 17
abbrev sWhole : Stmt := topS 18
abbrev sSh : Stmt := topS 19
abbrev sFrac : Stmt := topS 20
abbrev sTurned : Stmt := topS 21
abbrev sIsf : Stmt := topS 22
abbrev sNumber : Stmt := topS 23
abbrev sTwo : Stmt := topS 24
abbrev sIs : Stmt := topS 25
abbrev sByN : Stmt := topS 26
abbrev sLaw : Stmt := topS 27
end SS
namespace SS
open PySem PySem.Spec PyProof.Rows L2
section
variable {P : Program} {w : World} {K : PySem.W.Frag} {mg : Str → Option Value} {base : Heap}
/-! ### the greatest common divisor -/
def spGcd : Sp := fun vs H Q _ => ∃ a b : Int, vs = [.int a, .int b] ∧ Q (.int ((Int.gcd a b : Nat) : Int)) H
theorem scCd : FnScope ["a", "b"] ["a", "b"] (defScope sCd) := ⟨rfl, rfl, rfl, by decide +kernel, rfl, by decide +kernel, by decide +kernel⟩
theorem ok_cd {f : Addr} {fd : FuncData} {k : Nat} (F : Fun K "common_divisor" "common_divisor" sCd f fd) (ma : mg "abs" = none) : FnOk P w K mg base CX0 (k + 1) f fd ["a", "b"] spGcd := by
  refine F.ok scCd (fun vs H Q E h => ?_) (fun cdv A outer s H vs Q E hr h => ?_)
  · obtain ⟨a, b, rfl, _⟩ := h
    rfl
  · obtain ⟨a, b, rfl, q⟩ := h
    refine ⟨_, pss_cons (ps_par (i := 0) (j := 1) rfl scCd.nd rfl rfl (by decide) rfl rfl
        (pa_cons (pe_callB call_abs (by rfl) ma boot_abs (pa_cons (pv 0) pa_nil)) (pa_cons (pe_callB call_abs (by rfl) ma boot_abs (pa_cons (pv 1) pa_nil)) pa_nil)) rfl)
      (pss_cons (ps_while PassesOwn.never (pt_cmpR op_gt (pv 1) pe_int (nomark _))
        (pss_one (ps_par (i := 0) (j := 1) rfl scCd.nd rfl rfl (by decide) rfl rfl (pa_cons (pv 1) (pa_cons (pe_op op_mod (pv 0) (pv 1)) pa_nil)) rfl)))
      (pss_one (ps_ret (pv 0)))), ?_⟩
    refine ⟨_, rfl, a, rfl, _, rfl, b, rfl, _, _, rfl, ?_⟩
    refine ⟨fun m σ H' => ∃ x y : Int, σ = [some (.int x), some (.int y)] ∧ H' = H ∧ 0 ≤ x ∧ 0 ≤ y ∧ Int.gcd x y = Int.gcd a b ∧ m = y.toNat,
      ⟨_, _, _, rfl, rfl, by split <;> omega, by split <;> omega, gcd_abs a b, rfl⟩, fun m σ H' hW => ?_⟩
    obtain ⟨x, y, rfl, rfl, hx, hy, hg, rfl⟩ := hW
    refine ⟨_, rfl, _, _, rfl, rfl, _, rfl, ite2 (fun e => ?_) (fun e => ?_)⟩
    · have e' : 0 < y := of_decide_eq_true e
      refine ⟨fun σ' H1 => ∃ x' y' : Int, σ' = [some (.int x'), some (.int y')] ∧ H1 = H' ∧ 0 ≤ x' ∧ 0 ≤ y' ∧ Int.gcd x' y' = Int.gcd a b ∧ y' < y, fun σ' H1 hN => ?_, ?_⟩
      · obtain ⟨x', y', r1, r2, r3, r4, r5, r6⟩ := hN
        exact ⟨y'.toNat, by omega, x', y', r1, r2, r3, r4, r5, rfl⟩
      · refine ⟨_, rfl, _, rfl, _, rfl, x, y, rfl, rfl, e', _, _, rfl, y, x % y, rfl, rfl, hy, Int.emod_nonneg _ (by omega), ?_, Int.emod_lt_of_pos _ e'⟩
        rw [gcd_turn hx e', hg]
    · have e' : ¬ 0 < y := fun z => e (decide_eq_true z)
      have y0 : y = 0 := by omega
      subst y0
      refine ⟨_, rfl, ?_⟩
      rw [← hg, gcd_end x hx] at q
      exact q
theorem scSh : FnScope ["_law_one", "_law_other"] ["_law_one", "_law_other"] (defScope sSh) := ⟨rfl, rfl, rfl, by decide +kernel, rfl, by decide +kernel, by decide +kernel⟩
theorem ok_sh {f : Addr} {fd : FuncData} {k : Nat} (F : Fun K "_law_shared" "_law_shared" sSh f fd) (ma : mg "abs" = none) : FnOk P w K mg base CX0 (k + 1) f fd ["_law_one", "_law_other"] spGcd := by
  refine F.ok scSh (fun vs H Q E h => ?_) (fun cdv A outer s H vs Q E hr h => ?_)
  · obtain ⟨a, b, rfl, _⟩ := h
    rfl
  · obtain ⟨a, b, rfl, q⟩ := h
    refine ⟨_, pss_cons (ps_par (i := 0) (j := 1) rfl scSh.nd rfl rfl (by decide) rfl rfl
        (pa_cons (pe_callB call_abs (by rfl) ma boot_abs (pa_cons (pv 0) pa_nil)) (pa_cons (pe_callB call_abs (by rfl) ma boot_abs (pa_cons (pv 1) pa_nil)) pa_nil)) rfl)
      (pss_cons (ps_while PassesOwn.never (pt_cmpR op_gt (pv 1) pe_int (nomark _))
        (pss_one (ps_par (i := 0) (j := 1) rfl scSh.nd rfl rfl (by decide) rfl rfl (pa_cons (pv 1) (pa_cons (pe_op op_mod (pv 0) (pv 1)) pa_nil)) rfl)))
      (pss_one (ps_ret (pv 0)))), ?_⟩
    refine ⟨_, rfl, a, rfl, _, rfl, b, rfl, _, _, rfl, ?_⟩
    refine ⟨fun m σ H' => ∃ x y : Int, σ = [some (.int x), some (.int y)] ∧ H' = H ∧ 0 ≤ x ∧ 0 ≤ y ∧ Int.gcd x y = Int.gcd a b ∧ m = y.toNat,
      ⟨_, _, _, rfl, rfl, by split <;> omega, by split <;> omega, gcd_abs a b, rfl⟩, fun m σ H' hW => ?_⟩
    obtain ⟨x, y, rfl, rfl, hx, hy, hg, rfl⟩ := hW
    refine ⟨_, rfl, _, _, rfl, rfl, _, rfl, ite2 (fun e => ?_) (fun e => ?_)⟩
    · have e' : 0 < y := of_decide_eq_true e
      refine ⟨fun σ' H1 => ∃ x' y' : Int, σ' = [some (.int x'), some (.int y')] ∧ H1 = H' ∧ 0 ≤ x' ∧ 0 ≤ y' ∧ Int.gcd x' y' = Int.gcd a b ∧ y' < y, fun σ' H1 hN => ?_, ?_⟩
      · obtain ⟨x', y', r1, r2, r3, r4, r5, r6⟩ := hN
        exact ⟨y'.toNat, by omega, x', y', r1, r2, r3, r4, r5, rfl⟩
      · refine ⟨_, rfl, _, rfl, _, rfl, x, y, rfl, rfl, e', _, _, rfl, y, x % y, rfl, rfl, hy, Int.emod_nonneg _ (by omega), ?_, Int.emod_lt_of_pos _ e'⟩
        rw [gcd_turn hx e', hg]
    · have e' : ¬ 0 < y := fun z => e (decide_eq_true z)
      have y0 : y = 0 := by omega
      subst y0
      refine ⟨_, rfl, ?_⟩
      rw [← hg, gcd_end x hx] at q
      exact q
end
end SS

namespace SS
open PySem PySem.Spec PyProof.Rows L2
/-- what the top says of an own class of errors, straight or not under ValueError, at C -/
structure ExT (K : PySem.W.Frag) (mg : Str → Option Value) (x : Str) (C : Addr) : Prop where
  gC : mg x = some (.ref C)
  xC : PySem.W.excIn K C [.type "ValueError", .type "Exception", .type "BaseException", .type "object"] "ValueError.__new__" = true
  kC : PySem.W.keepIn K (.ref C) = true
  bC : PySem.W.subIn K (.ref C) (.type "BaseException") = some true
  tC : PySem.W.typeIn K (.ref C) = some (.type "type")
theorem logOf {b : Int} {n : Nat} (h0 : 0 < n) (h : b.natAbs < 2 ^ n) (hn : n ≤ 9000) : b.natAbs.log2 < 9000 := Nat.lt_of_lt_of_le (PySem.Flt.log2_lt_of h0 h) hn
theorem sgd_ok {t b : Int} (h : b ≠ 0) (hb : b.natAbs < 2 ^ 8000) (i : Int) : CDivG i (sgd t b) := by
  refine ⟨sgd_ne h, logOf (n := 8000) (by decide) ?_ (by decide)⟩
  rw [sgd_abs]
  refine Nat.lt_of_le_of_lt (Nat.le_of_dvd (Int.natAbs_pos.mpr h) ?_) hb
  exact Nat.gcd_dvd_right ..
section
variable {P : Program} {w : World} {K : PySem.W.Frag} {mg : Str → Option Value} {base : Heap}
/-! ### fraction_of; the law's own _law_frac -/
def spFo (C : Addr) : Sp := fun vs H Q E => ∃ t b : Int, vs = [.int t, .int b] ∧ (b = 0 → E (.ref C) none H) ∧
  (b ≠ 0 → b.natAbs < 2 ^ 8000 ∧ ∀ p, H p = none → Q (.ref p) (upd H p (.tup [.int (fr1 t b), .int (fr2 t b)])))
theorem scFo : FnScope ["top", "bottom", "divisor"] ["top", "bottom"] (defScope sFo) := ⟨rfl, rfl, rfl, by decide +kernel, rfl, by decide +kernel, by decide +kernel⟩
theorem ok_fo {f C : Addr} {fd : FuncData} (F : FunD K "fraction_of" "fraction_of" (defArgs sFo) (defBody sFo) (defScope sFo) [.int 1] [] f fd) (T : ExT K mg "NoFraction" C)
    (cd : Cl P w K mg base CX0 1 "common_divisor" spGcd []) : FnOk P w K mg base (L2.CX P w) 2 f fd ["top", "bottom"] (spFo C) := by
  refine F.ok scFo (fun vs H Q E h => ?_) (fun cdv A outer s H vs Q E hr h => ?_)
  · obtain ⟨a, b, rfl, _⟩ := h
    rfl
  · obtain ⟨t, b, rfl, q0, q1⟩ := h
    refine ⟨_, pss_cons (ps_if (pt_cmpR op_eq (pv 1) pe_int (nomark _))
        (pss_one (ps_raise rfl (takes_of rfl rfl rfl rfl) (pmk_own PySem.F.excBase_ValueError T.xC T.gC T.kC (raises_own T.bC T.tC) (by exact rfl)))) pss_nil)
      (pss_cons (ps_set (i := 2) scFo.nd rfl (.inl rfl) (pc0 cd hr (by decide) (pa_cons (pv 0) (pa_cons (pv 1) pa_nil))))
      (pss_cons (ps_if (pt_cmpR op_lt (pv 1) pe_int (nomark _)) (pss_one (ps_set (i := 2) scFo.nd rfl (.inl rfl) (pe_un un_neg (pv 2)))) pss_nil)
      (pss_one (ps_ret (pe_tup (pa_cons (pe_op op_fdivG (pv 0) (pv 2)) (pa_cons (pe_op op_fdivG (pv 1) (pv 2)) pa_nil))))))), ?_⟩
    refine ⟨_, rfl, rfl, _, rfl, ite2 (fun e => ?_) (fun e => ?_)⟩
    · exact q0 (V.int.inj (of_decide_eq_true e))
    · have h0 : b ≠ 0 := fun z => e (by rw [z]; exact decide_eq_true rfl)
      obtain ⟨hb, q⟩ := q1 h0
      refine ⟨_, rfl, _, rfl, t, b, rfl, ?_⟩
      refine ⟨_, rfl, _, _, rfl, rfl, _, rfl, ite2 (fun e2 => ?_) (fun e2 => ?_)⟩
      · have e3 : sgd t b = -((Int.gcd t b : Nat) : Int) := if_pos (of_decide_eq_true e2)
        refine ⟨_, rfl, _, rfl, ?_⟩
        refine ⟨_, rfl, _, rfl, t, sgd t b, rfl, by rw [e3], sgd_ok h0 hb t, _, rfl, _, rfl, b, sgd t b, rfl, by rw [e3], sgd_ok h0 hb b, small2, q⟩
      · have e3 : sgd t b = ((Int.gcd t b : Nat) : Int) := if_neg fun z => e2 (decide_eq_true z)
        refine ⟨_, rfl, _, rfl, t, sgd t b, rfl, by rw [e3], sgd_ok h0 hb t, _, rfl, _, rfl, b, sgd t b, rfl, by rw [e3], sgd_ok h0 hb b, small2, q⟩
end
end SS

namespace SS
open PySem PySem.Spec PyProof.Rows L2
section
variable {P : Program} {w : World} {K : PySem.W.Frag} {mg : Str → Option Value} {base : Heap}
def spFrac : Sp := fun vs H Q _ => ∃ t b : Int, vs = [.int t, .int b] ∧ b ≠ 0 ∧ b.natAbs < 2 ^ 8000 ∧ ∀ p, H p = none → Q (.ref p) (upd H p (.tup [.int (fr1 t b), .int (fr2 t b)]))
theorem scFrac : FnScope ["_law_top", "_law_bottom", "_law_by"] ["_law_top", "_law_bottom"] (defScope sFrac) := ⟨rfl, rfl, rfl, by decide +kernel, rfl, by decide +kernel, by decide +kernel⟩
theorem ok_frac {f : Addr} {fd : FuncData} (F : Fun K "_law_frac" "_law_frac" sFrac f fd) (sh : Cl P w K mg base CX0 1 "_law_shared" spGcd []) : FnOk P w K mg base CX0 2 f fd ["_law_top", "_law_bottom"] spFrac := by
  refine F.ok scFrac (fun vs H Q E h => ?_) (fun cdv A outer s H vs Q E hr h => ?_)
  · obtain ⟨a, b, rfl, _⟩ := h
    rfl
  · obtain ⟨t, b, rfl, h0, hb, q⟩ := h
    refine ⟨_, pss_cons (ps_set (i := 2) scFrac.nd rfl (.inl rfl) (pc0 sh hr (by decide) (pa_cons (pv 0) (pa_cons (pv 1) pa_nil))))
      (pss_cons (ps_if (pt_cmpR op_lt (pv 1) pe_int (nomark _)) (pss_one (ps_set (i := 2) scFrac.nd rfl (.inl rfl) (pe_op op_sub pe_int (pv 2)))) pss_nil)
      (pss_one (ps_ret (pe_tup (pa_cons (pe_op op_fdivG (pv 0) (pv 2)) (pa_cons (pe_op op_fdivG (pv 1) (pv 2)) pa_nil)))))), ?_⟩
    refine ⟨_, rfl, _, rfl, t, b, rfl, ?_⟩
    refine ⟨_, rfl, _, _, rfl, rfl, _, rfl, ite2 (fun e2 => ?_) (fun e2 => ?_)⟩
    · have e3 : sgd t b = -((Int.gcd t b : Nat) : Int) := if_pos (of_decide_eq_true e2)
      refine ⟨_, rfl, _, _, rfl, rfl, ?_⟩
      refine ⟨_, rfl, _, rfl, t, sgd t b, rfl, by rw [e3]; exact congrArg V.int (Int.zero_sub _), sgd_ok h0 hb t, _, rfl, _, rfl, b, sgd t b, rfl, by rw [e3]; exact congrArg V.int (Int.zero_sub _), sgd_ok h0 hb b, small2, q⟩
    · have e3 : sgd t b = ((Int.gcd t b : Nat) : Int) := if_neg fun z => e2 (decide_eq_true z)
      refine ⟨_, rfl, _, rfl, t, sgd t b, rfl, by rw [e3], sgd_ok h0 hb t, _, rfl, _, rfl, b, sgd t b, rfl, by rw [e3], sgd_ok h0 hb b, small2, q⟩
end
end SS

namespace SS
open PySem PySem.Spec PyProof.Rows L2
section
variable {P : Program} {w : World} {K : PySem.W.Frag} {mg : Str → Option Value} {base : Heap}
/-! ### the law's draws: fresh, mixed, fill, take -/
def spFresh (K : PySem.W.Frag) : Sp := fun vs H Q _ => ∃ (a : Addr) (ns : List Int), vs = [.ref a] ∧ SqL K H a (ns.map V.int) ∧
  ∀ H' st c, Same H H' → H st = none → H c = none → StA st c H' → Q (.ref st) H'
theorem scFresh : FnScope ["_law_script"] ["_law_script"] (defScope sFresh) := ⟨rfl, rfl, rfl, by decide +kernel, rfl, by decide +kernel, by decide +kernel⟩
theorem cut63 (xs : List V) : (cutV xs none (some 63)) = xs.take 63 := by
  unfold cutV
  rw [HT.sIx_none, show HT.sIx xs.length xs.length (some 63) = min 63 xs.length from HT.sIx_nat xs.length xs.length 63]
  show List.take (min 63 xs.length - 0) (xs.drop 0) = xs.take 63
  rw [List.drop_zero, Nat.sub_zero]
  by_cases h : xs.length ≤ 63
  · rw [Nat.min_eq_right h, List.take_length, List.take_of_length_le h]
  · rw [Nat.min_eq_left (by omega)]
theorem ok_fresh {f : Addr} {fd : FuncData} {k : Nat} (F : Fun K "_law_fresh" "_law_fresh" sFresh f fd) : FnOk P w K mg base CX0 (k + 1) f fd ["_law_script"] (spFresh K) := by
  refine F.ok scFresh (fun vs H Q E h => ?_) (fun cdv A outer s H vs Q E hr h => ?_)
  · obtain ⟨a, ns, rfl, _⟩ := h
    rfl
  · obtain ⟨a, ns, rfl, hS, q⟩ := h
    refine ⟨_, pss_one (ps_ret (pe_lst (pa_cons (pe_slice sl_list (pv 0) po_none (po_some pe_int)) (pa_cons pe_int (pa_cons pe_int (pa_cons pe_bl pa_nil)))))), ?_⟩
    refine ⟨_, rfl, 63, rfl, a, _, rfl, hS, fun c nc => ?_⟩
    refine ⟨by show 4 ≤ sizeLine; decide, fun st nst => ?_⟩
    have ncs : c ≠ st := fun e => by
      rw [e, upd_same] at nst
      cases nst
    have s1 := same_new (o := .lst (cutV (ns.map V.int) none (some 63))) nc
    refine q _ st c (s1.trans (same_new nst)) (s1.free nst) nc ⟨0, 0, false, ns.take 63, upd_same, ?_, ?_, ncs⟩
    · rw [upd_ne ncs, upd_same, cut63, List.map_take]
    · rw [List.length_take]
      exact Nat.min_le_left _ _
def spMixed : Sp := fun vs H Q _ => ∃ z : Int, vs = [.int z] ∧ ∀ H' (m : Int), Same H H' → Q (.int m) H'
theorem scMixed : FnScope ["_law_seed", "_law_primes", "_law_number_here", "_law_k", "_law_prime", "_law_far", "_law_square", "_law_power"] ["_law_seed"] (defScope sMixed) := ⟨rfl, rfl, rfl, by decide +kernel, rfl, by decide +kernel, by decide +kernel⟩
def primes : List Int := [2147483647, 2147483629, 2147483587, 2147483579, 2147483563]
def adds : List Int := [11, 101, 1009, 10007, 100003]
theorem at_some {xs : List Int} {i : Nat} (h : i < xs.length) : atI (xs.map V.int) (i : Int) = some (.int xs[i]) :=
  atI_nat (by rw [List.getElem?_map, List.getElem?_eq_getElem h]; rfl)
theorem primes_ok : ∀ x ∈ primes, 0 < x ∧ x < 2 ^ 31 := by decide
theorem ok_mixed {f : Addr} {fd : FuncData} {k : Nat} (F : Fun K "_law_mixed" "_law_mixed" sMixed f fd) (me : mg "enumerate" = none) : FnOk P w K mg base CX0 (k + 1) f fd ["_law_seed"] spMixed := by
  refine F.ok scMixed (fun vs H Q E h => ?_) (fun cdv A outer s H vs Q E hr h => ?_)
  · obtain ⟨a, rfl, _⟩ := h
    rfl
  · obtain ⟨z, rfl, q⟩ := h
    refine ⟨_, pss_cons (ps_set (i := 1) scMixed.nd rfl (.inl rfl) (pe_tup (pa_cons pe_int (pa_cons pe_int (pa_cons pe_int (pa_cons pe_int (pa_cons pe_int pa_nil)))))))
      (pss_cons (ps_set (i := 2) scMixed.nd rfl (.inl rfl) pe_int)
      (pss_cons (ps_for PassesOwn.never rfl (pi_enT (by rfl) me (pa_cons (pv 1) pa_nil)) (pg_tup rfl (pgs_cons (pg_name (i := 3) scMixed.nd rfl (.inl rfl)) (pgs_cons (pg_name (i := 4) scMixed.nd rfl (.inl rfl)) pgs_nil)))
        (pss_cons (ps_set (i := 5) scMixed.nd rfl (.inl rfl) (pe_op op_add (pv 0) (pe_ix ix_tup (pe_tup (pa_cons pe_int (pa_cons pe_int (pa_cons pe_int (pa_cons pe_int (pa_cons pe_int pa_nil)))))) (pv 3) (fun _ _ => rfl))))
        (pss_cons (ps_set (i := 5) scMixed.nd rfl (.inl rfl) (pe_op op_mod (pe_op op_mul (pv 5) (pe_op op_add pe_int (pe_op op_mul pe_int (pv 3)))) (pv 4)))
        (pss_cons (ps_set (i := 6) scMixed.nd rfl (.inl rfl) (pe_op op_mod (pe_op op_mul (pv 5) (pv 5)) (pv 4)))
        (pss_cons (ps_set (i := 7) scMixed.nd rfl (.inl rfl) (pe_op op_mod (pe_op op_mul (pe_op op_mod (pe_op op_mul (pv 6) (pv 6)) (pv 4)) (pv 5)) (pv 4)))
        (pss_one (ps_set (i := 2) scMixed.nd rfl (.inl rfl) (pe_op op_add (pe_op op_mul (pv 2) (pv 4)) (pv 7)))))))))
      (pss_one (ps_ret (pv 2))))), ?_⟩
    refine ⟨by show 5 ≤ sizeLine; decide, fun t nt => ?_⟩
    have s1 := same_new (o := .tup (primes.map V.int)) nt
    have e1 : (upd H t (.tup (primes.map V.int))) t = some (.tup (primes.map V.int)) := upd_same
    refine ⟨_, rfl, t, primes.map V.int, rfl, .inl (.inl e1), ?_⟩
    refine ⟨fun i m σ H3 => ∃ (nn : Int) (y3 y4 y5 y6 y7 : Option V), σ = [some (.int z), some (.ref t), some (.int nn), y3, y4, y5, y6, y7] ∧ i + m = 5 ∧ Same (upd H t (.tup (primes.map V.int))) H3,
      ⟨5, 0, none, none, none, none, none, rfl, rfl, Same.refl _⟩, fun i m σ H3 hW => ?_⟩
    obtain ⟨nn, y3, y4, y5, y6, y7, rfl, em, sm⟩ := hW
    have e3 : SqT K H3 t (primes.map V.int) := .inl (.inl (sm _ _ e1))
    by_cases hi : i < 5
    · have hp : i < primes.length := hi
      refine .inr ⟨⟨_, _, e3, by rw [List.getElem?_map, List.getElem?_eq_getElem hp]; rfl⟩,
        fun σ' H' => ∃ (nn : Int) (y3 y4 y5 y6 y7 : Option V), σ' = [some (.int z), some (.ref t), some (.int nn), y3, y4, y5, y6, y7] ∧ Same (upd H t (.tup (primes.map V.int))) H', fun σ' H' hN => ?_, fun x H' hy => ?_⟩
      · obtain ⟨a1, a2, a3, a4, a5, a6, r1, r2⟩ := hN
        exact ⟨m - 1, by omega, a1, a2, a3, a4, a5, a6, r1, by omega, r2⟩
      · obtain ⟨T, v, rfl, nT, rfl, fv⟩ := hy
        have ev : v = .int primes[i] := by
          have zz := fv _ e3
          rw [List.getElem?_map, List.getElem?_eq_getElem hp] at zz
          exact (Option.some.inj zz).symm
        subst ev
        have pr : 0 < primes[i] ∧ primes[i] < 2 ^ 31 := primes_ok _ (List.getElem_mem hp)
        generalize primes[i] = pp at pr
        have sT := same_new (o := .tup [.int (i : Nat), .int pp]) nT
        refine ⟨T, [.int (i : Nat), .int pp], rfl, .inl (.inl upd_same), rfl, _, _, rfl, _, _, rfl, rfl, ?_⟩
        -- far = seed + (..)[k]
        refine ⟨_, rfl, by show 5 ≤ sizeLine; decide, fun U nU => ?_⟩
        have sU := same_new (o := .tup (adds.map V.int)) nU
        have hA : i < adds.length := hi
        refine ⟨_, rfl, U, adds.map V.int, (i : Int), .int adds[i], rfl, rfl, .inl (.inl upd_same), at_some hA, z, adds[i], rfl, rfl, ?_⟩
        obtain ⟨far, hfar⟩ : ∃ far, z + adds[i] = far := ⟨_, rfl⟩
        -- far = far * (48271 + 2 * k) % prime
        refine ⟨_, rfl, _, rfl, 2, (i : Int), rfl, rfl, .inl ⟨by decide, by decide⟩, 48271, 2 * (i : Int), rfl, rfl, far, _, congrArg V.int hfar, rfl, .inr ⟨by omega, by omega⟩, _, rfl, _, pp, rfl, rfl, pr.1, ?_⟩
        obtain ⟨fa, hfa⟩ : ∃ fa, far * (48271 + 2 * (i : Int)) % pp = fa := ⟨_, rfl⟩
        have f1 := Int.emod_nonneg (far * (48271 + 2 * (i : Int))) (b := pp) (by omega)
        have f2 := Int.emod_lt_of_pos (far * (48271 + 2 * (i : Int))) pr.1
        rw [hfa] at f1 f2
        -- square
        refine ⟨_, rfl, _, rfl, fa, fa, congrArg V.int hfa, congrArg V.int hfa, .inl ⟨by omega, by omega⟩, _, rfl, _, pp, rfl, rfl, pr.1, ?_⟩
        obtain ⟨sq, hsq⟩ : ∃ sq, fa * fa % pp = sq := ⟨_, rfl⟩
        have g1 := Int.emod_nonneg (fa * fa) (b := pp) (by omega)
        have g2 := Int.emod_lt_of_pos (fa * fa) pr.1
        rw [hsq] at g1 g2
        -- power
        refine ⟨_, rfl, _, rfl, sq, sq, congrArg V.int hsq, congrArg V.int hsq, .inl ⟨by omega, by omega⟩, _, rfl, _, pp, rfl, rfl, pr.1, _, rfl, _, fa, rfl, congrArg V.int hfa, .inr ⟨by omega, by omega⟩, _, rfl, _, pp, rfl, rfl, pr.1, ?_⟩
        -- number
        refine ⟨_, rfl, _, rfl, nn, pp, rfl, rfl, .inr ⟨by omega, by omega⟩, _, rfl, _, _, rfl, rfl, ?_⟩
        exact ⟨_, _, _, _, _, _, rfl, sm.trans (sT.trans sU)⟩
    · refine .inl ⟨⟨_, e3, by show 5 = i; omega⟩, _, rfl, q _ nn (s1.trans sm)⟩
end
end SS

namespace SS
open PySem PySem.Spec PyProof.Rows L2
section
variable {P : Program} {w : World} {K : PySem.W.Frag} {mg : Str → Option Value} {base : Heap}
def spFill : Sp := fun vs H Q _ => ∃ st c : Addr, vs = [.ref st] ∧ StA st c H ∧ ∀ H', But st H H' → StA st c H' → Q .non H'
theorem scFill : FnScope ["_law_state", "_law_cells", "_law_at", "_law_seed"] ["_law_state"] (defScope sFill) := ⟨rfl, rfl, rfl, by decide +kernel, rfl, by decide +kernel, by decide +kernel⟩
theorem ok_fill {f : Addr} {fd : FuncData} (F : Fun K "_law_fill" "_law_fill" sFill f fd) (ml : mg "len" = none) (mx : Cl P w K mg base CX0 1 "_law_mixed" spMixed []) : FnOk P w K mg base CX0 2 f fd ["_law_state"] spFill := by
  refine F.ok scFill (fun vs H Q E h => ?_) (fun cdv A outer s H vs Q E hr h => ?_)
  · obtain ⟨a, _, rfl, _⟩ := h
    rfl
  · obtain ⟨st, c, rfl, hst, q⟩ := h
    refine ⟨_, pss_cons (ps_par (i := 1) (j := 2) rfl scFill.nd rfl rfl (by decide) rfl rfl (pa_cons (pe_ix ix_list (pv 0) pe_int (fun _ _ => rfl)) (pa_cons (pe_ix ix_list (pv 0) pe_int (fun _ _ => rfl)) pa_nil)) rfl)
      (pss_cons (ps_set (i := 3) scFill.nd rfl (.inl rfl) (pe_op op_add (pe_op op_mul pe_int (pv 2)) pe_int))
      (pss_cons (ps_if (pt_cmpR op_gt (pe_callB call_len_seq (by rfl) ml PySem.boot_len (pa_cons (pv 1) pa_nil)) pe_int (nomark _))
        (pss_cons (ps_set (i := 3) scFill.nd rfl (.inl rfl) (pe_op op_mul pe_int (pe_op op_fdiv (pv 2) (pe_callB call_len_seq (by rfl) ml PySem.boot_len (pa_cons (pv 1) pa_nil)))))
        (pss_one (ps_set (i := 3) scFill.nd rfl (.inl rfl) (pe_op op_add (pv 3) (pe_ix ix_list (pv 1) (pe_op op_mod (pv 2) (pe_callB call_len_seq (by rfl) ml PySem.boot_len (pa_cons (pv 1) pa_nil))) (fun _ _ => rfl))))))
        pss_nil)
      (pss_cons (ps_asg (pe_op op_add (pv 2) pe_int) (pg_sub (pv 0) pe_int set_list))
      (pss_cons (ps_asg (pe_or (pe_cmpR op_ge (pv 2) (pe_callB call_len_seq (by rfl) ml PySem.boot_len (pa_cons (pv 1) pa_nil)) (nomark _)) (pe_one (pe_cmpR op_lt (pv 3) (pe_op op_pow pe_int pe_int) (nomark _)))) (pg_sub (pv 0) pe_int set_list))
      (pss_one (ps_if (pt_val (pe_ix ix_list (pv 0) pe_int (fun _ _ => rfl)))
        (pss_one (ps_asg (pc0 mx hr (by decide) (pa_cons (pv 3) pa_nil)) (pg_sub (pv 0) pe_int set_list)))
        (pss_one (ps_asg (pe_op op_sub (pv 3) (pe_op op_pow pe_int pe_int)) (pg_sub (pv 0) pe_int set_list))))))))), ?_⟩
    obtain ⟨i, n, b, xs, h1, h2, h3, h4⟩ := hst
    refine ⟨_, rfl, st, _, 0, _, rfl, rfl, SqL.of h1, atI_nat (j := 0) rfl, _, rfl, st, _, 1, _, rfl, rfl, SqL.of h1, atI_nat (j := 1) rfl, _, _, rfl, ?_⟩
    refine ⟨_, rfl, 31, i, rfl, rfl, .inl ⟨by decide, by decide⟩, _, 7, rfl, rfl, ?_⟩
    refine ⟨_, rfl, c, _, rfl, .inl (SqL.of h2), _, _, rfl, rfl, _, rfl, ite2 (fun e => ?_) (fun e => ?_)⟩
    have e0 : (0 : Int) < ((xs.map V.int).length : Int) := of_decide_eq_true e
    have e1 : 0 < xs.length := by
      rw [List.length_map] at e0
      omega
    have el : ((xs.map V.int).length : Int) = (xs.length : Int) := by rw [List.length_map]
    refine ⟨_, rfl, _, rfl, c, _, rfl, .inl (SqL.of h2), i, (xs.length : Int), rfl, congrArg V.int el, ⟨by omega, by omega⟩, 104729, _, rfl, rfl, .inl ⟨by decide, by decide⟩, ?_⟩
    have m1 := Int.emod_nonneg i (b := (xs.length : Int)) (by omega)
    have m2 := Int.emod_lt_of_pos i (b := (xs.length : Int)) (by omega)
    have m3 : (i % (xs.length : Int)).toNat < xs.length := by omega
    have m4 : atI (xs.map V.int) (i % (xs.length : Int)) = some (.int xs[(i % (xs.length : Int)).toNat]) := by
      have e5 : i % (xs.length : Int) = (((i % (xs.length : Int)).toNat : Nat) : Int) := by omega
      exact at_of e5 (by rw [List.getElem?_map, List.getElem?_eq_getElem m3]; rfl)
    refine ⟨_, rfl, _, rfl, _, rfl, _, rfl, c, _, rfl, .inl (SqL.of h2), i, (xs.length : Int), rfl, congrArg V.int el, by omega, c, _, _, _, rfl, rfl, SqL.of h2, m4, _, _, rfl, rfl, ?_⟩
    all_goals
      refine ⟨_, rfl, i, 1, rfl, rfl, _, rfl, st, _, 1, 1, rfl, rfl, h1, rfl, ?_⟩
      have k2 : ∀ o : HO, (upd H st o) c = some (.lst (xs.map V.int)) := fun o => by
        rw [upd_ne h4]
        exact h2
      refine ⟨_, rfl, _, rfl, c, _, rfl, .inl (SqL.of (k2 _)), _, _, rfl, rfl, _, rfl, ite2 (fun e2 => ?_) (fun e2 => ?_)⟩
      rotate_left
      refine ⟨_, rfl, 10, 18, rfl, rfl, ⟨by decide, by decide, by decide⟩, _, _, rfl, rfl, ?_⟩
      all_goals
        refine ⟨_, rfl, st, _, 3, 3, rfl, rfl, upd_same, rfl, ?_⟩
        refine ⟨_, rfl, st, _, 3, _, rfl, rfl, SqL.of upd_same, atI_nat (j := 3) rfl, _, rfl, ite2 (fun e3 => ?_) (fun e3 => ?_)⟩
        · refine ⟨_, rfl, _, rfl, fun H3 m sm => ?_⟩
          refine ⟨_, rfl, st, _, 2, 2, rfl, rfl, sm _ _ upd_same, rfl, ?_⟩
          refine q _ (((But.upd.trans But.upd).trans (Same.but sm)).trans But.upd) ⟨_, _, _, xs, upd_same, ?_, h3, h4⟩
          rw [upd_ne h4]
          refine sm _ _ ?_
          rw [upd_ne h4]
          exact k2 _
        · refine ⟨_, rfl, 10, 18, rfl, rfl, ⟨by decide, by decide, by decide⟩, _, _, rfl, rfl, _, rfl, st, _, 2, 2, rfl, rfl, upd_same, rfl, ?_⟩
          refine q _ ((But.upd.trans But.upd).trans But.upd) ⟨_, _, _, xs, upd_same, ?_, h3, h4⟩
          rw [upd_ne h4, upd_ne h4]
          exact k2 _
end
end SS

namespace SS
open PySem PySem.Spec PyProof.Rows L2
section
variable {P : Program} {w : World} {K : PySem.W.Frag} {mg : Str → Option Value} {base : Heap}
def spTake : Sp := fun vs H Q _ => ∃ (st c : Addr) (many : Int), vs = [.ref st, .int many] ∧ 0 < many ∧ many.natAbs < 2 ^ 8000 ∧ StA st c H ∧
  ∀ H' (d : Int), But st H H' → StA st c H' → 0 ≤ d → d < many → Q (.int d) H'
theorem scTake : FnScope ["_law_state", "_law_many", "_law_turns", "_law_digit"] ["_law_state", "_law_many"] (defScope sTake) := ⟨rfl, rfl, rfl, by decide +kernel, rfl, by decide +kernel, by decide +kernel⟩
theorem StA.put {st : Addr} {H : Hp} {c : Addr} {i n : Int} {f : Bool} {xs : List Int} (h2 : H c = some (.lst (xs.map V.int))) (h3 : xs.length ≤ 63) (h4 : c ≠ st) : StA st c (upd H st (.lst [.ref c, .int i, .int n, .bl f])) :=
  ⟨i, n, f, xs, upd_same, by rw [upd_ne h4]; exact h2, h3, h4⟩
theorem ok_take {f : Addr} {fd : FuncData} (F : Fun K "_law_take" "_law_take" sTake f fd) (fl : Cl P w K mg base CX0 2 "_law_fill" spFill []) : FnOk P w K mg base CX0 3 f fd ["_law_state", "_law_many"] spTake := by
  refine F.ok scTake (fun vs H Q E h => ?_) (fun cdv A outer s H vs Q E hr h => ?_)
  · obtain ⟨a, _, b, rfl, _⟩ := h
    rfl
  · obtain ⟨st, c, many, rfl, m0, m1, hst, q⟩ := h
    refine ⟨_, pss_cons (ps_set (i := 2) scTake.nd rfl (.inl rfl) pe_int)
      (pss_cons (ps_while PassesOwn.never
        (PW.pt (pw_and (pt_cmpR op_lt (pv 2) pe_int (nomark _)) (pw_and1 (PW.pt (pw_or (pt_cmpR op_eq (pe_ix ix_list (pv 0) pe_int (fun _ _ => rfl)) pe_int (nomark _))
          (pw_or1 (PW.pt (pw_and (pt_val (pe_ix ix_list (pv 0) pe_int (fun _ _ => rfl))) (pw_and1 (pt_cmpR op_lt (pe_ix ix_list (pv 0) pe_int (fun _ _ => rfl)) (pe_op op_mul (pv 1) pe_int) (nomark _)))))))))))
        (pss_cons (ps_expr (pc0 fl hr (by decide) (pa_cons (pv 0) pa_nil)))
        (pss_cons (ps_aug (i := 2) scTake.nd rfl (.inl rfl) pe_int ip_add)
        (pss_one (ps_if (PW.pt (pw_and (pt_val (pe_ix ix_list (pv 0) pe_int (fun _ _ => rfl))) (pw_and1 (pt_cmpR op_lt (pe_ix ix_list (pv 0) pe_int (fun _ _ => rfl)) (pe_op op_mul (pv 1) pe_int) (nomark _)))))
          (pss_one (ps_asg (pe_op op_add (pe_ix ix_list (pv 0) pe_int (fun _ _ => rfl)) (pe_op op_mul (pe_op op_mul (pv 1) pe_int) (pe_op op_add pe_int (pe_op op_mod (pe_ix ix_list (pv 0) pe_int (fun _ _ => rfl)) pe_int)))) (pg_sub (pv 0) pe_int set_list))) pss_nil)))))
      (pss_cons (ps_set (i := 3) scTake.nd rfl (.inl rfl) (pe_op op_mod (pe_ix ix_list (pv 0) pe_int (fun _ _ => rfl)) (pv 1)))
      (pss_cons (ps_asg (pe_op op_fdivW (pe_ix ix_list (pv 0) pe_int (fun _ _ => rfl)) (pv 1)) (pg_sub (pv 0) pe_int set_list))
      (pss_one (ps_ret (pv 3)))))), ?_⟩
    refine ⟨fun m σ H' => ∃ (tn : Int) (y3 : Option V), σ = [some (.ref st), some (.int many), some (.int tn), y3] ∧ But st H H' ∧ StA st c H' ∧ m = (64 - tn).toNat,
      ⟨64, 0, none, rfl, But.refl _ _, hst, rfl⟩, fun m σ H1 hW => ?_⟩
    obtain ⟨tn, y3, rfl, bt, sa, rfl⟩ := hW
    obtain ⟨i, n, b, xs, h1, h2, h3, h4⟩ := id sa
    refine ⟨_, rfl, tn, 64, rfl, rfl, _, rfl, ite2 (fun e => ?n2) (fun e => iteF ?ex1)⟩
    case' n2 => refine ⟨_, rfl, st, _, 2, _, rfl, rfl, SqL.of h1, atI_nat (j := 2) rfl, rfl, _, rfl, ite2 (fun e1 => iteT ?bd1) (fun e1 => ?n3)⟩
    case' n3 => refine ⟨_, rfl, st, _, 3, _, rfl, rfl, SqL.of h1, atI_nat (j := 3) rfl, _, rfl, ite2 (fun e2 => ?n4) (fun e2 => iteF ?ex2)⟩
    case' n4 => refine ⟨_, rfl, st, _, 2, _, rfl, rfl, SqL.of h1, atI_nat (j := 2) rfl, _, rfl, many, 4096, rfl, rfl, .inr ⟨by decide, by decide⟩, n, _, rfl, rfl, _, rfl, ite2 (fun e3 => ?bd2) (fun e3 => ?ex3)⟩
    case ex1 | ex2 | ex3 =>
      refine ⟨_, rfl, st, _, 2, _, rfl, rfl, SqL.of h1, atI_nat (j := 2) rfl, _, rfl, n, many, rfl, rfl, m0, ?_⟩
      refine ⟨_, rfl, st, _, 2, _, rfl, rfl, SqL.of h1, atI_nat (j := 2) rfl, _, rfl, n, many, rfl, rfl, wide_div m0 m1 (by decide) (by decide), _, rfl, st, _, 2, 2, rfl, rfl, h1, rfl, ?_⟩
      exact ⟨_, rfl, q _ _ (bt.trans But.upd) (StA.put h2 h3 h4) (Int.emod_nonneg _ (by omega)) (Int.emod_lt_of_pos _ m0)⟩
    case bd1 | bd2 =>
      have e' : tn < 64 := of_decide_eq_true e
      refine ⟨fun σ' H' => ∃ (tn' : Int) (y3 : Option V), σ' = [some (.ref st), some (.int many), some (.int tn'), y3] ∧ But st H H' ∧ StA st c H' ∧ tn' = tn + 1, fun σ' H' hN => ?_, ?_⟩
      · obtain ⟨t', y', r1, r2, r3, r4⟩ := hN
        exact ⟨_, by omega, t', y', r1, r2, r3, rfl⟩
      · refine ⟨_, rfl, st, c, rfl, sa, fun H2 b2 s2 => ?_⟩
        obtain ⟨i, n, b, xs, h1, h2, h3, h4⟩ := id s2
        refine ⟨_, rfl, _, _, rfl, rfl, ?_⟩
        refine ⟨_, rfl, st, _, 3, _, rfl, rfl, SqL.of h1, atI_nat (j := 3) rfl, _, rfl, ite2 (fun e2 => ?_) (fun e2 => iteF ?_)⟩
        · refine ⟨_, rfl, st, _, 2, _, rfl, rfl, SqL.of h1, atI_nat (j := 2) rfl, _, rfl, many, 4096, rfl, rfl, .inr ⟨by decide, by decide⟩, n, _, rfl, rfl, _, rfl, ite2 (fun e3 => ?_) (fun e3 => ?_)⟩
          · refine ⟨_, rfl, st, _, 2, _, rfl, rfl, SqL.of h1, atI_nat (j := 2) rfl, _, rfl, many, 4096, rfl, rfl, .inr ⟨by decide, by decide⟩, _, rfl, st, _, 2, _, rfl, rfl, SqL.of h1, atI_nat (j := 2) rfl, n, 4093, rfl, rfl, (by show (0 : Int) < 4093; decide), 1, n % 4093, rfl, rfl, _, 1 + n % 4093, rfl, rfl, .inr ⟨by omega, by omega⟩, n, _, rfl, rfl, ?_⟩
            refine ⟨_, rfl, st, _, 2, 2, rfl, rfl, h1, rfl, ?_⟩
            exact ⟨_, _, rfl, (bt.trans b2).trans But.upd, StA.put h2 h3 h4, rfl⟩
          · exact ⟨_, _, rfl, bt.trans b2, s2, rfl⟩
        · exact ⟨_, _, rfl, bt.trans b2, s2, rfl⟩
end
end SS

namespace SS
open PySem PySem.Spec PyProof.Rows L2
section
variable {P : Program} {w : World} {K : PySem.W.Frag} {mg : Str → Option Value} {base : Heap}
/-! ### a whole number, a fraction by the law's own look -/
def spWhole : Sp := fun vs H Q _ => ∃ i : Int, vs = [.int i] ∧ Q (.bl true) H
theorem scWhole : FnScope ["_law_thing"] ["_law_thing"] (defScope sWhole) := ⟨rfl, rfl, rfl, by decide +kernel, rfl, by decide +kernel, by decide +kernel⟩
theorem ok_whole {f : Addr} {fd : FuncData} {k : Nat} (F : Fun K "_law_whole" "_law_whole" sWhole f fd) (mi : mg "isinstance" = none) (mn : mg "int" = none) (mb : mg "bool" = none) : FnOk P w K mg base CX0 (k + 1) f fd ["_law_thing"] spWhole := by
  refine F.ok scWhole (fun vs H Q E h => ?_) (fun cdv A outer s H vs Q E hr h => ?_)
  · obtain ⟨a, rfl, _⟩ := h
    rfl
  · obtain ⟨i, rfl, q⟩ := h
    refine ⟨_, pss_one (ps_ret (pe_and (pe_callB call_isi (by rfl) mi boot_isinstance (pa_cons (pv 0) (pa_cons (pe_bltn (v := .ty "int") (u := .type "int") (by rfl) mn (by decide +kernel) rfl) pa_nil)))
      (pe_one (pe_not (pe_callB call_isi (by rfl) mi boot_isinstance (pa_cons (pv 0) (pa_cons (pe_bltn (v := .ty "bool") (u := .type "bool") (by rfl) mb (by decide +kernel) rfl) pa_nil))))))), ?_⟩
    refine ⟨_, rfl, .int i, .ty "int", .type "int", .type "int", true, rfl, .ty _, .base (.int i), kit_ty (by decide +kernel), _, rfl, iteT ?_⟩
    exact ⟨_, rfl, .int i, .ty "bool", .type "int", .type "bool", false, rfl, .ty _, .base (.int i), kit_ty (by decide +kernel), _, rfl, q⟩
def spIsf : Sp := fun vs H Q _ => ∃ (p : Addr) (n d : Int), vs = [.ref p] ∧ H p = some (.tup [.int n, .int d]) ∧ 0 < d ∧ Int.gcd n d = 1 ∧ ∀ H', Same H H' → Q (.bl true) H'
theorem scIsf : FnScope ["_law_thing", "_law_part"] ["_law_thing"] (defScope sIsf) := ⟨rfl, rfl, rfl, by decide +kernel, rfl, by decide +kernel, by decide +kernel⟩
theorem ok_isf {f : Addr} {fd : FuncData} (F : Fun K "_law_is_fraction" "_law_is_fraction" sIsf f fd) (mi : mg "isinstance" = none) (mt : mg "tuple" = none) (ml : mg "len" = none) (ma : mg "all" = none)
    (wh : Cl P w K mg base CX0 1 "_law_whole" spWhole []) (sh : Cl P w K mg base CX0 1 "_law_shared" spGcd []) : FnOk P w K mg base CX0 2 f fd ["_law_thing"] spIsf := by
  refine F.ok scIsf (fun vs H Q E h => ?_) (fun cdv A outer s H vs Q E hr h => ?_)
  · obtain ⟨a, _, _, rfl, _⟩ := h
    rfl
  · obtain ⟨p, n, d, rfl, hp, hd, hg, q⟩ := h
    refine ⟨_, pss_cons (ps_if (PW.pt (pw_or (pt_not (pt_val (pe_callB call_isi (by rfl) mi boot_isinstance (pa_cons (pv 0) (pa_cons (pe_bltn (v := .ty "tuple") (u := .type "tuple") (by rfl) mt (by decide +kernel) rfl) pa_nil)))))
        (pw_or (pt_cmpR op_ne (pe_callB call_len_seq (by rfl) ml PySem.boot_len (pa_cons (pv 0) pa_nil)) pe_int (nomark _))
        (pw_or1 (pt_not (pt_val (pe_callB (cr_all rfl) (by rfl) ma boot_all (pa_cons
          (pe_lc (own := [("_law_part", 1)]) (g := gName 1) (tt := tYes) rfl scIsf.nd (pi_tup (pv 0)) (blkOk_by (N := ["_law_thing", "_law_part"]) (sc := defScope sIsf) (by decide +kernel))
            (fun _ _ _ _ _ => pg_name (i := 1) scIsf.nd rfl (Or.inl rfl)) (fun _ _ _ _ _ => pts_nil) (fun _ _ _ _ _ => pc0 wh hr (by decide) (pa_cons (pv 1) pa_nil))) pa_nil))))))))
        (pss_one (ps_ret pe_bl)) pss_nil)
      (pss_one (ps_ret (pe_and (pe_cmpR op_gt (pe_ix ix_tup (pv 0) pe_int (fun _ _ => rfl)) pe_int (nomark _))
        (pe_one (pe_cmpR op_eq (pc0 sh hr (by decide) (pa_cons (pe_ix ix_tup (pv 0) pe_int (fun _ _ => rfl)) (pa_cons (pe_ix ix_tup (pv 0) pe_int (fun _ _ => rfl)) pa_nil))) pe_int (nomark _)))))), ?_⟩
    refine ⟨_, rfl, .ref p, .ty "tuple", .type "tuple", .type "tuple", true, rfl, .ty _, .base (.tup hp), kit_ty (by decide +kernel), _, rfl, iteF ?_⟩
    refine ⟨_, rfl, p, _, rfl, .inr (SqT.of hp), rfl, _, rfl, iteNS rfl ?_⟩
    refine ⟨_, rfl, p, rfl, ⟨_, SqT.of hp⟩, fun D nD => lc_tup (K := K) (a := p) (xs := [.int n, .int d]) (fun i H' => H' D = some (.lst (List.replicate i (.bl true))) ∧ ∀ b o, b ≠ D → H b = some o → H' b = some o)
      ⟨upd_same, fun b o nb e => by rw [upd_ne nb]; exact e⟩ (fun i H' _ hW => SqT.of (hW.2 _ _ (ne_of_none hp nD) hp)) ?_ ?_⟩
    · rintro i x H' hx ⟨w1, w2⟩
      obtain ⟨z, rfl⟩ : ∃ z : Int, x = .int z := by
        match i, hx with
        | 0, hx => exact ⟨n, (Option.some.inj hx).symm⟩
        | 1, hx => exact ⟨d, (Option.some.inj hx).symm⟩
      have hi : i < 2 := by
        have zz := (List.getElem?_eq_some_iff.mp hx).1
        exact zz
      refine ⟨rfl, _, rfl, z, rfl, _, w1, ?_, ?_, ?_⟩
      · rw [List.length_replicate]
        exact small1000 (by omega)
      · rw [upd_same, List.replicate_succ']
      · intro b o nb e
        rw [upd_ne nb]
        exact w2 b o nb e
    · rintro H' ⟨w1, w2⟩
      refine ⟨D, [true, true], rfl, SqL.of w1, _, rfl, iteF ?_⟩
      have sm : Same H H' := fun b o e => w2 b o (ne_of_none e nD) e
      have hp' := sm _ _ hp
      refine ⟨_, rfl, p, _, 1, _, rfl, rfl, SqT.of hp', atI_nat (j := 1) rfl, d, 0, rfl, rfl, true, congrArg V.bl (decide_eq_true hd), iteT ?_⟩
      refine ⟨_, rfl, p, _, 0, _, rfl, rfl, SqT.of hp', atI_nat (j := 0) rfl, _, rfl, p, _, 1, _, rfl, rfl, SqT.of hp', atI_nat (j := 1) rfl, n, d, rfl, rfl, ?_⟩
      rw [hg]
      exact q _ sm
end
end SS

namespace SS
open PySem PySem.Spec PyProof.Rows L2
theorem sm_mul {i j : Int} {a b : Nat} (ha : i.natAbs < 2 ^ a) (hb : j.natAbs < 2 ^ b) : (i * j).natAbs < 2 ^ (a + b) := wide_lt ha hb
theorem sm_add {i j : Int} {a : Nat} (ha : i.natAbs < 2 ^ a) (hb : j.natAbs < 2 ^ a) : (i + j).natAbs < 2 ^ (a + 1) := by
  rw [Nat.pow_succ]
  omega
theorem sm_sub {i j : Int} {a : Nat} (ha : i.natAbs < 2 ^ a) (hb : j.natAbs < 2 ^ a) : (i - j).natAbs < 2 ^ (a + 1) := by
  rw [Nat.pow_succ]
  omega
theorem sm_mono {i : Int} {a b : Nat} (ha : i.natAbs < 2 ^ a) (h : a ≤ b) : i.natAbs < 2 ^ b := Nat.lt_of_lt_of_le ha (Nat.pow_le_pow_right (by decide) h)
theorem pos_ne {a b : Int} (h1 : 0 < a) (h2 : 0 < b) : a * b ≠ 0 := Int.ne_of_gt (Int.mul_pos h1 h2)
end SS

namespace SS
open PySem PySem.Spec PyProof.Rows L2
/-! ### how many bits a number has -/
theorem mt_bits {X : Cx} : MtR X "int.bit_length" (fun x xs H Q => ∃ a : Int, x = .int a ∧ xs = [] ∧ Q (.int ((Builtin.Int.intBits a : Nat) : Int)) H) := by
  intro pins s σ H x xs v us Q I rx rs h
  obtain ⟨a, rfl, rfl, h⟩ := h
  obtain ⟨t, rfl⟩ := rx
  cases rs
  exact call_int_bit_length ⟨.int ((Builtin.Int.intBits a : Nat) : Int), H, I.tok _, ⟨_, rfl⟩, h⟩
theorem bits_le {d : Int} {k : Nat} (h : d.natAbs < 2 ^ k) : Builtin.Int.intBits d ≤ k := by
  unfold Builtin.Int.intBits
  by_cases c : d = 0
  · rw [if_pos (beq_iff_eq.mpr c)]
    exact Nat.zero_le _
  · rw [if_neg fun z => c (beq_iff_eq.mp z)]
    exact (Nat.log2_lt (Int.natAbs_ne_zero.mpr c)).mpr h
theorem dv_lt {d g : Int} {k : Nat} (hg : g ∣ d) (h0 : g ≠ 0) (h : d.natAbs < 2 ^ k) : (d.fdiv g).natAbs < 2 ^ k := by
  obtain ⟨c, rfl⟩ := hg
  rw [gcdDvdMul h0]
  rw [Int.natAbs_mul] at h
  exact Nat.lt_of_le_of_lt (Nat.le_mul_of_pos_left _ (Int.natAbs_pos.mpr h0)) h
theorem cdiv_ok {g : Int} (h0 : g ≠ 0) (h : g.natAbs < 2 ^ 3000) (i : Int) : CDivG i g := ⟨h0, logOf (n := 3000) (by decide) h (by decide)⟩
theorem gcd_ne {a b : Int} (h : b ≠ 0) : ((Int.gcd a b : Nat) : Int) ≠ 0 := by
  have := gcdP (t := a) h
  omega
theorem gcd_ltK {a b : Int} {k : Nat} (h : b ≠ 0) (hb : b.natAbs < 2 ^ k) : ((Int.gcd a b : Nat) : Int).natAbs < 2 ^ k := by
  rw [Int.natAbs_natCast]
  exact Nat.lt_of_le_of_lt (Nat.le_of_dvd (Int.natAbs_pos.mpr h) (Nat.gcd_dvd_right ..)) hb
section
variable {P : Program} {w : World} {K : PySem.W.Frag} {mg : Str → Option Value} {base : Heap}
def shortB (d1 d2 : Int) : Bool := decide (((Builtin.Int.intBits d1 : Nat) : Int) + ((Builtin.Int.intBits d2 : Nat) : Int) ≤ 256)
theorem short_of {d1 d2 : Int} (h1 : d1.natAbs < 2 ^ 128) (h2 : d2.natAbs < 2 ^ 128) : shortB d1 d2 = true := decide_eq_true (by
  have := bits_le h1
  have := bits_le h2
  omega)
def spAre (K : PySem.W.Frag) : Sp := fun vs H Q _ => ∃ (p q : Addr) (n1 d1 n2 d2 : Int), vs = [.ref p, .ref q] ∧ SqT K H p [.int n1, .int d1] ∧ SqT K H q [.int n2, .int d2] ∧ Q (.bl (shortB d1 d2)) H
theorem scAre : FnScope ["a", "b"] ["a", "b"] (defScope sAre) := ⟨rfl, rfl, rfl, by decide +kernel, rfl, by decide +kernel, by decide +kernel⟩
theorem ok_are {f : Addr} {fd : FuncData} {k : Nat} {tSb : Tok} (F : Fun K "are_short" "are_short" sAre f fd) (gSb : mg "SHORT_BITS" = some (.int 256 tSb)) : FnOk P w K mg base CX0 (k + 1) f fd ["a", "b"] (spAre K) := by
  refine F.ok scAre (fun vs H Q E h => ?_) (fun cdv A outer s H vs Q E hr h => ?_)
  · obtain ⟨_, _, _, _, _, _, rfl, _⟩ := h
    rfl
  · obtain ⟨p, q, n1, d1, n2, d2, rfl, h1, h2, k⟩ := h
    refine ⟨_, pss_one (ps_ret (pe_cmpR op_le (pe_op op_add
        (pe_bm0 PySem.F.plainAttrs_int PySem.F.slot_int_bit_length PySem.F.type_int_bit_length mt_bits (pe_ix ix_tup (pv 0) pe_int (fun _ _ => rfl)))
        (pe_bm0 PySem.F.plainAttrs_int PySem.F.slot_int_bit_length PySem.F.type_int_bit_length mt_bits (pe_ix ix_tup (pv 1) pe_int (fun _ _ => rfl))))
      (pe_glob (v := .int 256) (by rfl) gSb ⟨_, rfl⟩) (nomark _))), ?_⟩
    refine ⟨_, rfl, p, _, 1, _, rfl, rfl, h1, atI_nat (j := 1) rfl, rfl, d1, rfl, rfl, _, rfl, q, _, 1, _, rfl, rfl, h2, atI_nat (j := 1) rfl, rfl, d2, rfl, rfl, _, _, rfl, rfl, _, _, rfl, rfl, k⟩
end
end SS


namespace SS
open PySem PySem.Spec PyProof.Rows L2
section
variable {P : Program} {w : World} {K : PySem.W.Frag} {mg : Str → Option Value} {base : Heap}
/-! ### plus, minus, times, over, is_less -/
/-- two fractions of few bits come in -/
def Two (H : Hp) (vs : List V) (n1 d1 n2 d2 : Int) : Prop := ∃ p q : Addr, vs = [.ref p, .ref q] ∧ H p = some (.tup [.int n1, .int d1]) ∧ H q = some (.tup [.int n2, .int d2]) ∧
  0 < d1 ∧ 0 < d2 ∧ n1.natAbs < 2 ^ 128 ∧ d1.natAbs < 2 ^ 128 ∧ n2.natAbs < 2 ^ 128 ∧ d2.natAbs < 2 ^ 128
def spPlus : Sp := fun vs H Q _ => ∃ n1 d1 n2 d2 : Int, Two H vs n1 d1 n2 d2 ∧ ∀ r, H r = none → Q (.ref r) (upd H r (.tup [.int (fr1 (n1 * d2 + n2 * d1) (d1 * d2)), .int (fr2 (n1 * d2 + n2 * d1) (d1 * d2))]))
theorem scPlus : FnScope ["a", "b", "shared", "top", "divisor"] ["a", "b"] (defScope sPlus) := ⟨rfl, rfl, rfl, by decide +kernel, rfl, by decide +kernel, by decide +kernel⟩
theorem ok_plus {f C : Addr} {fd : FuncData} (F : Fun K "plus" "plus" sPlus f fd) (fo : Cl P w K mg base (L2.CX P w) 2 "fraction_of" (spFo C) []) (cd : Cl P w K mg base CX0 1 "common_divisor" spGcd []) (ar : Cl P w K mg base CX0 1 "are_short" (spAre K) []) : FnOk P w K mg base CX0 3 f fd ["a", "b"] spPlus := by
  refine F.ok scPlus (fun vs H Q E h => ?_) (fun cdv A outer s H vs Q E hr h => ?_)
  · obtain ⟨_, _, _, _, ⟨p, q, rfl, _⟩, _⟩ := h
    rfl
  · obtain ⟨n1, d1, n2, d2, ⟨p, q, rfl, h1, h2, z1, z2, b1, b2, b3, b4⟩, k⟩ := h
    refine ⟨_, (pss_cons (ps_if (pt_val (pc0 ar hr (by decide) (pa_cons (pv 0) (pa_cons (pv 1) pa_nil))))
        (pss_one (ps_ret (pcX fo hr (by decide) (pa_cons (pe_op op_add (pe_op op_mulW (pe_ix ix_tup (pv 0) pe_int (fun _ _ => rfl)) (pe_ix ix_tup (pv 1) pe_int (fun _ _ => rfl))) (pe_op op_mulW (pe_ix ix_tup (pv 1) pe_int (fun _ _ => rfl)) (pe_ix ix_tup (pv 0) pe_int (fun _ _ => rfl)))) (pa_cons (pe_op op_mulW (pe_ix ix_tup (pv 0) pe_int (fun _ _ => rfl)) (pe_ix ix_tup (pv 1) pe_int (fun _ _ => rfl))) pa_nil))))) pss_nil)
      (pss_cons (ps_set (i := 2) scPlus.nd rfl (.inl rfl) (pc0 cd hr (by decide) (pa_cons (pe_ix ix_tup (pv 0) pe_int (fun _ _ => rfl)) (pa_cons (pe_ix ix_tup (pv 1) pe_int (fun _ _ => rfl)) pa_nil))))
      (pss_cons (ps_set (i := 3) scPlus.nd rfl (.inl rfl) (pe_op op_add (pe_op op_mulW (pe_ix ix_tup (pv 0) pe_int (fun _ _ => rfl)) (pe_op op_fdivG (pe_ix ix_tup (pv 1) pe_int (fun _ _ => rfl)) (pv 2))) (pe_op op_mulW (pe_ix ix_tup (pv 1) pe_int (fun _ _ => rfl)) (pe_op op_fdivG (pe_ix ix_tup (pv 0) pe_int (fun _ _ => rfl)) (pv 2)))))
      (pss_cons (ps_set (i := 4) scPlus.nd rfl (.inl rfl) (pc0 cd hr (by decide) (pa_cons (pv 3) (pa_cons (pv 2) pa_nil))))
      (pss_one (ps_ret (pe_tup (pa_cons (pe_op op_fdivG (pv 3) (pv 4)) (pa_cons (pe_op op_mulW (pe_op op_fdivG (pe_ix ix_tup (pv 0) pe_int (fun _ _ => rfl)) (pv 2)) (pe_op op_fdivG (pe_ix ix_tup (pv 1) pe_int (fun _ _ => rfl)) (pv 4))) pa_nil))))))))), ?_⟩
    refine ⟨_, rfl, _, rfl, p, q, n1, d1, n2, d2, rfl, SqT.of h1, SqT.of h2, _, rfl, ?_⟩
    rw [short_of b2 b4]
    refine iteT ?_
    · refine ⟨_, rfl, p, _, 0, _, rfl, rfl, SqT.of h1, atI_nat (j := 0) rfl, _, rfl, q, _, 1, _, rfl, rfl, SqT.of h2, atI_nat (j := 1) rfl, n1, d2, rfl, rfl, wide_mul b1 b4 (by decide) (by decide) (by decide), ?_⟩
      refine ⟨_, rfl, q, _, 0, _, rfl, rfl, SqT.of h2, atI_nat (j := 0) rfl, _, rfl, p, _, 1, _, rfl, rfl, SqT.of h1, atI_nat (j := 1) rfl, n2, d1, rfl, rfl, wide_mul b3 b2 (by decide) (by decide) (by decide), _, _, rfl, rfl, ?_⟩
      refine ⟨_, rfl, p, _, 1, _, rfl, rfl, SqT.of h1, atI_nat (j := 1) rfl, _, rfl, q, _, 1, _, rfl, rfl, SqT.of h2, atI_nat (j := 1) rfl, d1, d2, rfl, rfl, wide_mul b2 b4 (by decide) (by decide) (by decide), ?_⟩
      exact ⟨n1 * d2 + n2 * d1, d1 * d2, rfl, fun e => absurd e (pos_ne z1 z2), fun _ => ⟨sm_mono (sm_mul b2 b4) (by decide), k⟩⟩
def spMinus : Sp := fun vs H Q _ => ∃ n1 d1 n2 d2 : Int, Two H vs n1 d1 n2 d2 ∧ ∀ H1, Same H H1 → ∀ r, H1 r = none → Q (.ref r) (upd H1 r (.tup [.int (fr1 (n1 * d2 - n2 * d1) (d1 * d2)), .int (fr2 (n1 * d2 - n2 * d1) (d1 * d2))]))
theorem scMinus : FnScope ["a", "b"] ["a", "b"] (defScope sMinus) := ⟨rfl, rfl, rfl, by decide +kernel, rfl, by decide +kernel, by decide +kernel⟩
theorem ok_minus {f : Addr} {fd : FuncData} (F : Fun K "minus" "minus" sMinus f fd) (pl : Cl P w K mg base CX0 3 "plus" spPlus []) : FnOk P w K mg base CX0 4 f fd ["a", "b"] spMinus := by
  refine F.ok scMinus (fun vs H Q E h => ?_) (fun cdv A outer s H vs Q E hr h => ?_)
  · obtain ⟨_, _, _, _, ⟨p, q, rfl, _⟩, _⟩ := h
    rfl
  · obtain ⟨n1, d1, n2, d2, ⟨p, q, rfl, h1, h2, z1, z2, b1, b2, b3, b4⟩, k⟩ := h
    refine ⟨_, pss_one (ps_ret (pc0 pl hr (by decide) (pa_cons (pv 0) (pa_cons (pe_tup (pa_cons (pe_un un_neg (pe_ix ix_tup (pv 1) pe_int (fun _ _ => rfl))) (pa_cons (pe_ix ix_tup (pv 1) pe_int (fun _ _ => rfl)) pa_nil))) pa_nil)))), ?_⟩
    refine ⟨_, rfl, _, rfl, q, _, 0, _, rfl, rfl, SqT.of h2, atI_nat (j := 0) rfl, n2, rfl, _, rfl, q, _, 1, _, rfl, rfl, SqT.of h2, atI_nat (j := 1) rfl, small2, fun U nU => ?_⟩
    have sU := same_new (o := .tup [.int (-n2), .int d2]) nU
    have e : n1 * d2 + -n2 * d1 = n1 * d2 - n2 * d1 := by rw [Int.neg_mul, Int.sub_eq_add_neg]
    have k2 := k _ sU
    rw [← e] at k2
    exact ⟨n1, d1, -n2, d2, ⟨p, U, rfl, sU _ _ h1, upd_same, z1, z2, b1, b2, by rw [Int.natAbs_neg]; exact b3, b4⟩, k2⟩
def spTimes : Sp := fun vs H Q _ => ∃ n1 d1 n2 d2 : Int, Two H vs n1 d1 n2 d2 ∧ ∀ r, H r = none → Q (.ref r) (upd H r (.tup [.int (fr1 (n1 * n2) (d1 * d2)), .int (fr2 (n1 * n2) (d1 * d2))]))
theorem scTimes : FnScope ["a", "b", "one", "other"] ["a", "b"] (defScope sTimes) := ⟨rfl, rfl, rfl, by decide +kernel, rfl, by decide +kernel, by decide +kernel⟩
theorem ok_times {f C : Addr} {fd : FuncData} (F : Fun K "times" "times" sTimes f fd) (fo : Cl P w K mg base (L2.CX P w) 2 "fraction_of" (spFo C) []) (cd : Cl P w K mg base CX0 1 "common_divisor" spGcd []) (ar : Cl P w K mg base CX0 1 "are_short" (spAre K) []) : FnOk P w K mg base CX0 3 f fd ["a", "b"] spTimes := by
  refine F.ok scTimes (fun vs H Q E h => ?_) (fun cdv A outer s H vs Q E hr h => ?_)
  · obtain ⟨_, _, _, _, ⟨p, q, rfl, _⟩, _⟩ := h
    rfl
  · obtain ⟨n1, d1, n2, d2, ⟨p, q, rfl, h1, h2, z1, z2, b1, b2, b3, b4⟩, k⟩ := h
    refine ⟨_, (pss_cons (ps_if (pt_val (pc0 ar hr (by decide) (pa_cons (pv 0) (pa_cons (pv 1) pa_nil))))
        (pss_one (ps_ret (pcX fo hr (by decide) (pa_cons (pe_op op_mulW (pe_ix ix_tup (pv 0) pe_int (fun _ _ => rfl)) (pe_ix ix_tup (pv 1) pe_int (fun _ _ => rfl))) (pa_cons (pe_op op_mulW (pe_ix ix_tup (pv 0) pe_int (fun _ _ => rfl)) (pe_ix ix_tup (pv 1) pe_int (fun _ _ => rfl))) pa_nil))))) pss_nil)
      (pss_cons (ps_par (i := 2) (j := 3) rfl scTimes.nd rfl rfl (by decide) rfl rfl (pa_cons (pc0 cd hr (by decide) (pa_cons (pe_ix ix_tup (pv 0) pe_int (fun _ _ => rfl)) (pa_cons (pe_ix ix_tup (pv 1) pe_int (fun _ _ => rfl)) pa_nil))) (pa_cons (pc0 cd hr (by decide) (pa_cons (pe_ix ix_tup (pv 1) pe_int (fun _ _ => rfl)) (pa_cons (pe_ix ix_tup (pv 0) pe_int (fun _ _ => rfl)) pa_nil))) pa_nil)) rfl)
      (pss_one (ps_ret (pe_tup (pa_cons (pe_op op_mulW (pe_op op_fdivG (pe_ix ix_tup (pv 0) pe_int (fun _ _ => rfl)) (pv 2)) (pe_op op_fdivG (pe_ix ix_tup (pv 1) pe_int (fun _ _ => rfl)) (pv 3))) (pa_cons (pe_op op_mulW (pe_op op_fdivG (pe_ix ix_tup (pv 0) pe_int (fun _ _ => rfl)) (pv 3)) (pe_op op_fdivG (pe_ix ix_tup (pv 1) pe_int (fun _ _ => rfl)) (pv 2))) pa_nil))))))), ?_⟩
    refine ⟨_, rfl, _, rfl, p, q, n1, d1, n2, d2, rfl, SqT.of h1, SqT.of h2, _, rfl, ?_⟩
    rw [short_of b2 b4]
    refine iteT ?_
    · refine ⟨_, rfl, p, _, 0, _, rfl, rfl, SqT.of h1, atI_nat (j := 0) rfl, _, rfl, q, _, 0, _, rfl, rfl, SqT.of h2, atI_nat (j := 0) rfl, n1, n2, rfl, rfl, wide_mul b1 b3 (by decide) (by decide) (by decide), ?_⟩
      refine ⟨_, rfl, p, _, 1, _, rfl, rfl, SqT.of h1, atI_nat (j := 1) rfl, _, rfl, q, _, 1, _, rfl, rfl, SqT.of h2, atI_nat (j := 1) rfl, d1, d2, rfl, rfl, wide_mul b2 b4 (by decide) (by decide) (by decide), ?_⟩
      exact ⟨n1 * n2, d1 * d2, rfl, fun e => absurd e (pos_ne z1 z2), fun _ => ⟨sm_mono (sm_mul b2 b4) (by decide), k⟩⟩
def spOver (C : Addr) : Sp := fun vs H Q E => ∃ n1 d1 n2 d2 : Int, Two H vs n1 d1 n2 d2 ∧ (n2 = 0 → E (.ref C) none H) ∧
  (n2 ≠ 0 → ∀ H1, Same H H1 → ∀ r, H1 r = none → Q (.ref r) (upd H1 r (.tup [.int (fr1 (n1 * d2) (d1 * n2)), .int (fr2 (n1 * d2) (d1 * n2))])))
theorem scOver : FnScope ["a", "b"] ["a", "b"] (defScope sOver) := ⟨rfl, rfl, rfl, by decide +kernel, rfl, by decide +kernel, by decide +kernel⟩
/-- both with the other sign: the same fraction -/
theorem fr_neg (t b : Int) (h : b ≠ 0) : fr1 (-t) (-b) = fr1 t b ∧ fr2 (-t) (-b) = fr2 t b := by
  have nb : -b ≠ 0 := by omega
  have c := fr_cross (t := -t) nb
  have e : fr1 (-t) (-b) * b = t * fr2 (-t) (-b) := by
    rw [Int.mul_neg, Int.neg_mul] at c
    omega
  exact frIs h (fr2_pos nb) (fr_gcd nb) e
theorem ok_over {f C : Addr} {fd : FuncData} (F : Fun K "over" "over" sOver f fd) (T : ExT K mg "NoFraction" C) (tm : Cl P w K mg base CX0 3 "times" spTimes []) : FnOk P w K mg base (L2.CX P w) 4 f fd ["a", "b"] (spOver C) := by
  refine F.okX scOver (fun vs H Q E h => ?_) (fun cdv A outer s H vs Q E hr h => ?_)
  · obtain ⟨_, _, _, _, ⟨p, q, rfl, _⟩, _⟩ := h
    rfl
  · obtain ⟨n1, d1, n2, d2, ⟨p, q, rfl, h1, h2, z1, z2, b1, b2, b3, b4⟩, k0, k⟩ := h
    refine ⟨_, pss_cons (ps_if (pt_cmpR op_eq (pe_ix ix_tup (pv 1) pe_int (fun _ _ => rfl)) pe_int (nomark _))
        (pss_one (ps_raise rfl (takes_of rfl rfl rfl rfl) (pmk_own PySem.F.excBase_ValueError T.xC T.gC T.kC (raises_own T.bC T.tC) (by exact rfl)))) pss_nil)
      (pss_one (ps_ret (pc0 tm hr (by decide) (pa_cons (pv 0) (pa_cons (pe_ifExp (pt_cmpR op_gt (pe_ix ix_tup (pv 1) pe_int (fun _ _ => rfl)) pe_int (nomark _)) (pe_tup (pa_cons (pe_ix ix_tup (pv 1) pe_int (fun _ _ => rfl)) (pa_cons (pe_ix ix_tup (pv 1) pe_int (fun _ _ => rfl)) pa_nil)))
        (pe_tup (pa_cons (pe_un un_neg (pe_ix ix_tup (pv 1) pe_int (fun _ _ => rfl))) (pa_cons (pe_un un_neg (pe_ix ix_tup (pv 1) pe_int (fun _ _ => rfl))) pa_nil)))) pa_nil))))), ?_⟩
    refine ⟨_, rfl, q, _, 0, _, rfl, rfl, SqT.of h2, atI_nat (j := 0) rfl, rfl, _, rfl, ite2 (fun e => ?_) (fun e => ?_)⟩
    · exact k0 (V.int.inj (of_decide_eq_true e))
    · have e0 : n2 ≠ 0 := fun z => e (by rw [z]; exact decide_eq_true rfl)
      have k := k e0
      refine ⟨_, rfl, _, rfl, q, _, 0, _, rfl, rfl, SqT.of h2, atI_nat (j := 0) rfl, n2, 0, rfl, rfl, _, rfl, ite2 (fun e1 => ?_) (fun e1 => ?_)⟩
      · have p0 : 0 < n2 := of_decide_eq_true e1
        refine ⟨_, rfl, q, _, 1, _, rfl, rfl, SqT.of h2, atI_nat (j := 1) rfl, _, rfl, q, _, 0, _, rfl, rfl, SqT.of h2, atI_nat (j := 0) rfl, small2, fun U nU => ?_⟩
        have sU := same_new (o := .tup [.int d2, .int n2]) nU
        exact ⟨n1, d1, d2, n2, ⟨p, U, rfl, sU _ _ h1, upd_same, z1, p0, b1, b2, b4, b3⟩, k _ sU⟩
      · have p0 : n2 < 0 := by
          have : ¬ 0 < n2 := fun z => e1 (decide_eq_true z)
          omega
        refine ⟨_, rfl, q, _, 1, _, rfl, rfl, SqT.of h2, atI_nat (j := 1) rfl, d2, rfl, _, rfl, q, _, 0, _, rfl, rfl, SqT.of h2, atI_nat (j := 0) rfl, n2, rfl, small2, fun U nU => ?_⟩
        have sU := same_new (o := .tup [.int (-d2), .int (-n2)]) nU
        have k2 := k _ sU
        have ee := fr_neg (n1 * d2) (d1 * n2) (Int.mul_ne_zero (Int.ne_of_gt z1) e0)
        rw [← ee.1, ← ee.2, ← Int.mul_neg, ← Int.mul_neg] at k2
        exact ⟨n1, d1, -d2, -n2, ⟨p, U, rfl, sU _ _ h1, upd_same, z1, by omega, b1, b2, by rw [Int.natAbs_neg]; exact b4, by rw [Int.natAbs_neg]; exact b3⟩, k2⟩
def spLess : Sp := fun vs H Q _ => ∃ n1 d1 n2 d2 : Int, Two H vs n1 d1 n2 d2 ∧ Q (.bl (decide (n1 * d2 < n2 * d1))) H
theorem scLess : FnScope ["a", "b"] ["a", "b"] (defScope sLess) := ⟨rfl, rfl, rfl, by decide +kernel, rfl, by decide +kernel, by decide +kernel⟩
theorem ok_less {f : Addr} {fd : FuncData} {k : Nat} (F : Fun K "is_less" "is_less" sLess f fd) : FnOk P w K mg base CX0 (k + 1) f fd ["a", "b"] spLess := by
  refine F.ok scLess (fun vs H Q E h => ?_) (fun cdv A outer s H vs Q E hr h => ?_)
  · obtain ⟨_, _, _, _, ⟨p, q, rfl, _⟩, _⟩ := h
    rfl
  · obtain ⟨n1, d1, n2, d2, ⟨p, q, rfl, h1, h2, z1, z2, b1, b2, b3, b4⟩, k⟩ := h
    refine ⟨_, pss_one (ps_ret (pe_cmpR op_lt (pe_op op_mulW (pe_ix ix_tup (pv 0) pe_int (fun _ _ => rfl)) (pe_ix ix_tup (pv 1) pe_int (fun _ _ => rfl)))
      (pe_op op_mulW (pe_ix ix_tup (pv 1) pe_int (fun _ _ => rfl)) (pe_ix ix_tup (pv 0) pe_int (fun _ _ => rfl))) (nomark _))), ?_⟩
    refine ⟨_, rfl, p, _, 0, _, rfl, rfl, SqT.of h1, atI_nat (j := 0) rfl, _, rfl, q, _, 1, _, rfl, rfl, SqT.of h2, atI_nat (j := 1) rfl, n1, d2, rfl, rfl, wide_mul b1 b4 (by decide) (by decide) (by decide), ?_⟩
    exact ⟨_, rfl, q, _, 0, _, rfl, rfl, SqT.of h2, atI_nat (j := 0) rfl, _, rfl, p, _, 1, _, rfl, rfl, SqT.of h1, atI_nat (j := 1) rfl, n2, d1, rfl, rfl, wide_mul b3 b2 (by decide) (by decide) (by decide), _, _, rfl, rfl, k⟩
/-! ### _law_is: the worth is due -/
def spIs : Sp := fun vs H Q _ => ∃ (p : Addr) (n d t b : Int), vs = [.ref p, .int t, .int b] ∧ H p = some (.tup [.int n, .int d]) ∧ 0 < d ∧ Int.gcd n d = 1 ∧ n * b = t * d ∧
  n.natAbs < 2 ^ 9000 ∧ d.natAbs < 2 ^ 9000 ∧ t.natAbs < 2 ^ 9000 ∧ b.natAbs < 2 ^ 9000 ∧ ∀ H', Same H H' → Q (.bl true) H'
theorem scIs : FnScope ["_law_found", "_law_top", "_law_bottom"] ["_law_found", "_law_top", "_law_bottom"] (defScope sIs) := ⟨rfl, rfl, rfl, by decide +kernel, rfl, by decide +kernel, by decide +kernel⟩
theorem ok_is {f : Addr} {fd : FuncData} (F : Fun K "_law_is" "_law_is" sIs f fd) (isf : Cl P w K mg base CX0 2 "_law_is_fraction" spIsf []) : FnOk P w K mg base CX0 3 f fd ["_law_found", "_law_top", "_law_bottom"] spIs := by
  refine F.ok scIs (fun vs H Q E h => ?_) (fun cdv A outer s H vs Q E hr h => ?_)
  · obtain ⟨_, _, _, _, _, rfl, _⟩ := h
    rfl
  · obtain ⟨p, n, d, t, b, rfl, hp, hd, hg, e, b1, b2, b3, b4, q⟩ := h
    refine ⟨_, pss_one (ps_ret (pe_and (pc0 isf hr (by decide) (pa_cons (pv 0) pa_nil))
      (pe_one (pe_cmpR op_eq (pe_op op_mulW (pe_ix ix_tup (pv 0) pe_int (fun _ _ => rfl)) (pv 2)) (pe_op op_mulW (pv 1) (pe_ix ix_tup (pv 0) pe_int (fun _ _ => rfl))) (nomark _))))), ?_⟩
    refine ⟨_, rfl, p, n, d, rfl, hp, hd, hg, fun H' sm => ⟨_, rfl, iteT ?_⟩⟩
    have hp' := sm _ _ hp
    refine ⟨_, rfl, p, _, 0, _, rfl, rfl, SqT.of hp', atI_nat (j := 0) rfl, _, rfl, n, b, rfl, rfl, wide_mul b1 b4 (by decide) (by decide) (by decide), ?_⟩
    refine ⟨_, rfl, _, rfl, p, _, 1, _, rfl, rfl, SqT.of hp', atI_nat (j := 1) rfl, t, d, rfl, rfl, wide_mul b3 b2 (by decide) (by decide) (by decide), rfl, ?_⟩
    have z : decide ((fun i j => V.int (i * j)) n b = (fun i j => V.int (i * j)) t d) = true := decide_eq_true (congrArg V.int e)
    rw [z]
    exact q _ sm
end
end SS
namespace SS
open PySem PySem.Spec PyProof.Rows L2
theorem lt8 {n : Int} (h : n.natAbs < 2 ^ 100) : n.natAbs < 2 ^ 8000 := sm_mono h (by decide)
theorem fra_new {H : Hp} {r : Addr} {t b : Int} {k : Nat} (h : b ≠ 0) (ht : t.natAbs < 2 ^ k) (hb : b.natAbs < 2 ^ k) : Fra k (upd H r (.tup [.int (fr1 t b), .int (fr2 t b)])) r :=
  ⟨_, _, upd_same, fr2_pos h, Nat.lt_of_le_of_lt (fr1_le h) ht, Nat.lt_of_le_of_lt (fr2_le h) hb⟩
section
variable {P : Program} {w : World} {K : PySem.W.Frag} {mg : Str → Option Value} {base : Heap}
/-! ### numbers and pairs of numbers, drawn -/
def spNumber : Sp := fun vs H Q _ => ∃ st c : Addr, vs = [.ref st] ∧ StA st c H ∧ ∀ H' p, But st H H' → StA st c H' → Fra 20 H' p → Q (.ref p) H'
theorem scNumber : FnScope ["_law_state", "_law_way", "_law_small", "_law_great", "_law_under"] ["_law_state"] (defScope sNumber) := ⟨rfl, rfl, rfl, by decide +kernel, rfl, by decide +kernel, by decide +kernel⟩
theorem ok_number {f : Addr} {fd : FuncData} (F : Fun K "_law_number" "_law_number" sNumber f fd) (tk : Cl P w K mg base CX0 3 "_law_take" spTake []) (fc : Cl P w K mg base CX0 2 "_law_frac" spFrac []) : FnOk P w K mg base CX0 4 f fd ["_law_state"] spNumber := by
  refine F.ok scNumber (fun vs H Q E h => ?_) (fun cdv A outer s H vs Q E hr h => ?_)
  · obtain ⟨_, _, rfl, _⟩ := h
    rfl
  · obtain ⟨st, c, rfl, sa, q⟩ := h
    refine ⟨_, pss_cons (ps_set (i := 1) scNumber.nd rfl (.inl rfl) (pc0 tk hr (by decide) (pa_cons (pv 0) (pa_cons pe_int pa_nil))))
      (pss_cons (ps_set (i := 2) scNumber.nd rfl (.inl rfl) (pe_op op_sub (pc0 tk hr (by decide) (pa_cons (pv 0) (pa_cons pe_int pa_nil))) pe_int))
      (pss_cons (ps_set (i := 3) scNumber.nd rfl (.inl rfl) (pe_op op_sub (pc0 tk hr (by decide) (pa_cons (pv 0) (pa_cons pe_int pa_nil))) pe_int))
      (pss_cons (ps_set (i := 4) scNumber.nd rfl (.inl rfl) (pe_op op_add pe_int (pc0 tk hr (by decide) (pa_cons (pv 0) (pa_cons pe_int pa_nil)))))
      (pss_cons (ps_if (pt_cmpR op_eq (pv 1) pe_int (nomark _)) (pss_one (ps_ret (pe_tup (pa_cons pe_int (pa_cons pe_int pa_nil))))) pss_nil)
      (pss_cons (ps_if (pt_cmpR op_eq (pv 1) pe_int (nomark _)) (pss_one (ps_ret (pc0 fc hr (by decide) (pa_cons (pv 3) (pa_cons (pv 4) pa_nil))))) pss_nil)
      (pss_cons (ps_if (pt_cmpR op_eq (pv 1) pe_int (nomark _)) (pss_one (ps_ret (pc0 fc hr (by decide) (pa_cons (pv 2) (pa_cons (pe_op op_add pe_int (pe_op op_mod (pv 4) pe_int)) pa_nil))))) pss_nil)
      (pss_one (ps_ret (pe_tup (pa_cons (pv 2) (pa_cons pe_int pa_nil))))))))))), ?_⟩
    refine ⟨_, rfl, st, c, 6, rfl, by decide, lt8 (by decide), sa, fun H1 d1 b1 s1 l1 u1 => ?_⟩
    refine ⟨_, rfl, st, c, 13, rfl, by decide, lt8 (by decide), s1, fun H2 d2 b2 s2 l2 u2 => ⟨_, _, rfl, rfl, ?_⟩⟩
    refine ⟨_, rfl, st, c, 1999, rfl, by decide, lt8 (by decide), s2, fun H3 d3 b3 s3 l3 u3 => ⟨_, _, rfl, rfl, ?_⟩⟩
    refine ⟨_, rfl, st, c, 99, rfl, by decide, lt8 (by decide), s3, fun H4 d4 b4 s4 l4 u4 => ⟨_, _, rfl, rfl, ?_⟩⟩
    have bb := ((b1.trans b2).trans b3).trans b4
    refine ⟨_, rfl, rfl, _, rfl, ite2 (fun _ => ?_) (fun _ => ?_)⟩
    · refine ⟨small2, fun p np => q _ p (bb.trans (Same.but (same_new np))) (s4.same (same_new np)) ⟨0, 1, upd_same, by decide, by decide, by decide⟩⟩
    · refine ⟨_, rfl, rfl, _, rfl, ite2 (fun _ => ?_) (fun _ => ?_)⟩
      · have n1 : 1 + d4 ≠ 0 := by omega
        have n2 : (1 + d4).natAbs < 2 ^ 20 := by omega
        refine ⟨_, rfl, _, rfl, d3 - 999, 1 + d4, rfl, n1, sm_mono n2 (by decide), fun p np => q _ p (bb.trans (Same.but (same_new np))) (s4.same (same_new np)) (fra_new n1 (by omega) n2)⟩
      · refine ⟨_, rfl, rfl, _, rfl, ite2 (fun _ => ?_) (fun _ => ?_)⟩
        · have n1 : 1 + (1 + d4) % 4 ≠ 0 := by omega
          have n2 : (1 + (1 + d4) % 4).natAbs < 2 ^ 20 := by omega
          refine ⟨_, rfl, _, rfl, 1 + d4, 4, rfl, rfl, (by show (0 : Int) < 4; decide), 1, (1 + d4) % 4, rfl, rfl, d2 - 6, 1 + (1 + d4) % 4, rfl, n1, sm_mono n2 (by decide), fun p np => q _ p (bb.trans (Same.but (same_new np))) (s4.same (same_new np)) (fra_new n1 (by omega) n2)⟩
        · refine ⟨_, rfl, small2, fun p np => q _ p (bb.trans (Same.but (same_new np))) (s4.same (same_new np)) ⟨d2 - 6, 1, upd_same, by decide, by omega, by decide⟩⟩
def spTurned : Sp := fun vs H Q _ => ∃ (p : Addr) (n d : Int), vs = [.ref p] ∧ H p = some (.tup [.int n, .int d]) ∧ ∀ r, H r = none → Q (.ref r) (upd H r (.tup [.int (0 - n), .int d]))
theorem scTurned : FnScope ["_law_a"] ["_law_a"] (defScope sTurned) := ⟨rfl, rfl, rfl, by decide +kernel, rfl, by decide +kernel, by decide +kernel⟩
theorem ok_turned {f : Addr} {fd : FuncData} {k : Nat} (F : Fun K "_law_turned" "_law_turned" sTurned f fd) : FnOk P w K mg base CX0 (k + 1) f fd ["_law_a"] spTurned := by
  refine F.ok scTurned (fun vs H Q E h => ?_) (fun cdv A outer s H vs Q E hr h => ?_)
  · obtain ⟨_, _, _, rfl, _⟩ := h
    rfl
  · obtain ⟨p, n, d, rfl, hp, q⟩ := h
    refine ⟨_, pss_one (ps_ret (pe_tup (pa_cons (pe_op op_sub pe_int (pe_ix ix_tup (pv 0) pe_int (fun _ _ => rfl))) (pa_cons (pe_ix ix_tup (pv 0) pe_int (fun _ _ => rfl)) pa_nil)))), ?_⟩
    exact ⟨_, rfl, p, _, 0, _, rfl, rfl, SqT.of hp, atI_nat (j := 0) rfl, 0, n, rfl, rfl, _, rfl, p, _, 1, _, rfl, rfl, SqT.of hp, atI_nat (j := 1) rfl, small2, q⟩
end
end SS
namespace SS
open PySem PySem.Spec PyProof.Rows L2
theorem fra_any {k : Nat} {H : Hp} {rs : List Addr} (h : ∀ r ∈ rs, Fra k H r) {i : Nat} {r : Addr} (e : rs[i]? = some r) : Fra k H r := h r (List.mem_of_getElem? e)
section
variable {P : Program} {w : World} {K : PySem.W.Frag} {mg : Str → Option Value} {base : Heap}
def spTwo : Sp := fun vs H Q _ => ∃ st c : Addr, vs = [.ref st] ∧ StA st c H ∧ ∀ H' l p q, But st H H' → StA st c H' → H' l = some (.lst [.ref p, .ref q]) → Fra 101 H' p → Fra 101 H' q → Q (.ref l) H'
theorem scTwo : FnScope ["_law_state", "_law_some", "_law_k", "_law_size", "_law_great", "_law_under", "_law_way"] ["_law_state"] (defScope sTwo) := ⟨rfl, rfl, rfl, by decide +kernel, rfl, by decide +kernel, by decide +kernel⟩
theorem ok_two {f : Addr} {fd : FuncData} (F : Fun K "_law_two" "_law_two" sTwo f fd) (mr : mg "range" = none) (tk : Cl P w K mg base CX0 3 "_law_take" spTake []) (fc : Cl P w K mg base CX0 2 "_law_frac" spFrac [])
    (nm : Cl P w K mg base CX0 4 "_law_number" spNumber []) (tu : Cl P w K mg base CX0 1 "_law_turned" spTurned []) : FnOk P w K mg base CX0 5 f fd ["_law_state"] spTwo := by
  refine F.ok scTwo (fun vs H Q E h => ?_) (fun cdv A outer s H vs Q E hr h => ?_)
  · obtain ⟨_, _, rfl, _⟩ := h
    rfl
  · obtain ⟨st, c, rfl, sa, q⟩ := h
    refine ⟨_, pss_cons (ps_set (i := 1) scTwo.nd rfl (.inl rfl) (pe_lst pa_nil))
      (pss_cons (ps_for PassesOwn.never rfl (pi_range1 rfl mr (pa_cons pe_int pa_nil)) (pg_name (i := 2) scTwo.nd rfl (.inl rfl))
        (pss_cons (ps_set (i := 3) scTwo.nd rfl (.inl rfl) (pe_ix ix_tup (pe_tup (pa_cons (pe_op op_pow pe_int pe_int) (pa_cons (pe_op op_pow pe_int pe_int) pa_nil))) (pc0 tk hr (by decide) (pa_cons (pv 0) (pa_cons pe_int pa_nil))) (fun _ _ => rfl)))
        (pss_cons (ps_set (i := 4) scTwo.nd rfl (.inl rfl) (pe_op op_sub (pc0 tk hr (by decide) (pa_cons (pv 0) (pa_cons (pv 3) pa_nil))) (pe_op op_fdiv (pv 3) pe_int)))
        (pss_cons (ps_set (i := 5) scTwo.nd rfl (.inl rfl) (pe_op op_add pe_int (pc0 tk hr (by decide) (pa_cons (pv 0) (pa_cons (pe_op op_sub (pv 3) pe_int) pa_nil)))))
        (pss_one (ps_expr (pe_bm PySem.F.plainAttrs_list PySem.F.slot_list_append PySem.F.type_list_append mt_append (pv 1) (pa_cons
          (pe_ix ix_tup (pe_tup (pa_cons (pc0 nm hr (by decide) (pa_cons (pv 0) pa_nil)) (pa_cons (pc0 fc hr (by decide) (pa_cons (pv 4) (pa_cons (pv 5) pa_nil))) pa_nil)))
            (pe_op op_fdiv (pc0 tk hr (by decide) (pa_cons (pv 0) (pa_cons pe_int pa_nil))) pe_int) (fun _ _ => rfl)) pa_nil))))))))
      (pss_cons (ps_set (i := 6) scTwo.nd rfl (.inl rfl) (pc0 tk hr (by decide) (pa_cons (pv 0) (pa_cons pe_int pa_nil))))
      (pss_cons (ps_if (pt_cmpR op_eq (pv 6) pe_int (nomark _)) (pss_one (ps_asg (pe_ix ix_list (pv 1) pe_int (fun _ _ => rfl)) (pg_sub (pv 1) pe_int set_list))) pss_nil)
      (pss_cons (ps_if (pt_cmpR op_eq (pv 6) pe_int (nomark _)) (pss_one (ps_asg (pc0 tu hr (by decide) (pa_cons (pe_ix ix_list (pv 1) pe_int (fun _ _ => rfl)) pa_nil)) (pg_sub (pv 1) pe_int set_list))) pss_nil)
      (pss_cons (ps_if (pt_cmpR op_eq (pv 6) pe_int (nomark _)) (pss_one (ps_asg (pc0 fc hr (by decide) (pa_cons (pe_op op_add pe_int (pe_ix ix_tup (pe_ix ix_list (pv 1) pe_int (fun _ _ => rfl)) pe_int (fun _ _ => rfl)))
        (pa_cons (pe_ix ix_tup (pe_ix ix_list (pv 1) pe_int (fun _ _ => rfl)) pe_int (fun _ _ => rfl)) pa_nil))) (pg_sub (pv 1) pe_int set_list))) pss_nil)
      (pss_one (ps_ret (pv 1)))))))), ?_⟩
    refine ⟨Nat.zero_le _, fun l nl => ?_⟩
    have sl := same_new (o := .lst []) nl
    have ls : l ≠ st := sa.fresh nl
    have lc : l ≠ c := sa.fresh2 nl
    refine ⟨2, rfl, by decide, by decide, for_range (n := 2) (fun i σ H' => ∃ (y2 y3 y4 y5 : Option V) (rs : List Addr), σ = [some (.ref st), some (.ref l), y2, y3, y4, y5, none] ∧ But st H H' ∧ StA st c H' ∧ H' l = some (.lst (rs.map V.ref)) ∧ rs.length = i ∧ ∀ r ∈ rs, Fra 100 H' r)
      ⟨none, none, none, none, [], rfl, Same.but sl, sa.same sl, upd_same, rfl, fun r z => absurd z (List.not_mem_nil)⟩ ?_ ?_⟩
    · rintro i σ H0 hi ⟨y2, y3, y4, y5, rs, rfl, bt, s0, hl, hn, hf⟩
      refine ⟨10, 15, rfl, rfl, ⟨by decide, by decide, by decide⟩, 10, 30, rfl, rfl, ⟨by decide, by decide, by decide⟩, small2, fun U nU => ?_⟩
      have sU := same_new (o := .tup [.int (10 ^ 15), .int (10 ^ 30)]) nU
      refine ⟨_, rfl, st, c, 2, rfl, by decide, lt8 (by decide), s0.same sU, fun H2 d2 b2 s2 l2 u2 => ?_⟩
      have hU2 : H2 U = some (.tup [.int (10 ^ 15), .int (10 ^ 30)]) := b2.tup (s0.same sU) upd_same
      obtain ⟨size, hz, z2, z3⟩ : ∃ size : Int, atI [V.int (10 ^ 15), V.int (10 ^ 30)] d2 = some (.int size) ∧ 2 ≤ size ∧ size.natAbs < 2 ^ 100 := by
        rcases (show d2 = 0 ∨ d2 = 1 by omega) with e | e
        · subst e
          exact ⟨10 ^ 15, rfl, by decide, by decide⟩
        · subst e
          exact ⟨10 ^ 30, rfl, by decide, by decide⟩
      refine ⟨U, _, d2, _, rfl, rfl, SqT.of hU2, hz, ?_⟩
      refine ⟨_, rfl, _, rfl, st, c, size, rfl, by omega, lt8 z3, s2, fun H3 d3 b3 s3 l3 u3 => ?_⟩
      refine ⟨_, rfl, size, 2, rfl, rfl, ⟨by decide, by decide⟩, d3, size / 2, rfl, rfl, ?_⟩
      refine ⟨_, rfl, _, rfl, size, 1, rfl, rfl, st, c, size - 1, rfl, by omega, lt8 (by omega), s3, fun H4 d4 b4 s4 l4 u4 => ⟨1, d4, rfl, rfl, ?_⟩⟩
      have b04 : But st H0 H4 := (((Same.but sU).trans b2).trans b3).trans b4
      have hl4 := b04 _ _ ls hl
      refine ⟨_, rfl, .inl ⟨rfl, _, SqL.of hl4⟩, ?_⟩
      refine ⟨_, rfl, st, c, rfl, s4, fun H5 p b5 s5 f5 => ?_⟩
      have n1 : 1 + d4 ≠ 0 := by omega
      have n2 : (1 + d4).natAbs < 2 ^ 100 := by omega
      refine ⟨_, rfl, _, rfl, d3 - size / 2, 1 + d4, rfl, n1, lt8 n2, fun r nr => ?_⟩
      have sr := same_new (o := .tup [.int (fr1 (d3 - size / 2) (1 + d4)), .int (fr2 (d3 - size / 2) (1 + d4))]) nr
      have fr : Fra 100 (upd H5 r (.tup [.int (fr1 (d3 - size / 2) (1 + d4)), .int (fr2 (d3 - size / 2) (1 + d4))])) r := fra_new n1 (by omega) n2
      have fp := f5.same sr
      have s6 := s5.same sr
      have b06 := (b04.trans b5).trans (Same.but (st := st) sr)
      generalize (upd H5 r (.tup [.int (fr1 (d3 - size / 2) (1 + d4)), .int (fr2 (d3 - size / 2) (1 + d4))])) = H6 at *
      refine ⟨small2, fun U2 nU2 => ?_⟩
      have sU2 := same_new (o := .tup [.ref p, .ref r]) nU2
      refine ⟨_, rfl, st, c, 3, rfl, by decide, lt8 (by decide), s6.same sU2, fun H7 d7 b7 s7 l7 u7 => ?_⟩
      have hU7 : H7 U2 = some (.tup [.ref p, .ref r]) := b7.tup (s6.same sU2) upd_same
      obtain ⟨x, hx, fx⟩ : ∃ x : Addr, atI [V.ref p, V.ref r] (d7 / 2) = some (.ref x) ∧ Fra 100 H7 x := by
        rcases (show d7 / 2 = 0 ∨ d7 / 2 = 1 by omega) with e | e
        · rw [e]
          exact ⟨p, rfl, ((fp.mono (by decide)).same sU2).but b7 (s6.same sU2)⟩
        · rw [e]
          exact ⟨r, rfl, (fr.same sU2).but b7 (s6.same sU2)⟩
      have b07 := (b06.trans (Same.but sU2)).trans b7
      have hl7 := b07 _ _ ls hl
      refine ⟨d7, 2, rfl, rfl, ⟨by decide, by decide⟩, U2, _, d7 / 2, _, rfl, rfl, SqT.of hU7, hx, l, _, _, rfl, rfl, hl7, ?_, ?_⟩
      · rw [List.length_map, hn]
        exact small1000 (by omega)
      · have kp : ∀ b o, b ≠ l → H7 b = some o → (upd H7 l (.lst (rs.map V.ref ++ [.ref x]))) b = some o := fun b o nb e => by
          rw [upd_ne nb]
          exact e
        have fk : ∀ r : Addr, Fra 100 H7 r → Fra 100 (upd H7 l (.lst (rs.map V.ref ++ [.ref x]))) r := fun r ⟨n, d, e, z⟩ => by
          refine ⟨n, d, kp r _ (fun c => ?_) e, z⟩
          rw [c, hl7] at e
          cases e
        refine ⟨_, _, _, _, rs ++ [x], rfl, fun b o nb e => kp b o (fun c => ?_) ((bt.trans b07) b o nb e), ?_, ?_, ?_, fun r hr' => ?_⟩
        · rw [c, nl] at e
          cases e
        · exact s7.other ls lc
        · rw [upd_same, List.map_append]
          rfl
        · rw [List.length_append, hn]
          rfl
        · rcases List.mem_append.mp hr' with z | z
          · exact fk r ((hf r z).but b07 s0)
          · rw [List.mem_singleton.mp z]
            exact fk x fx
    · rintro σ H0 ⟨y2, y3, y4, y5, rs, rfl, bt, s0, hl, hn, hf⟩
      obtain ⟨p, p2, rfl⟩ : ∃ p p2, rs = [p, p2] := by
        match rs, hn with
        | [a, b], _ => exact ⟨a, b, rfl⟩
      refine ⟨_, rfl, st, c, 6, rfl, by decide, lt8 (by decide), s0, fun H1 d1 b1 s1 l1 u1 => ?_⟩
      have hl1 : H1 l = some (.lst [.ref p, .ref p2]) := b1 _ _ ls hl
      have fp : Fra 101 H1 p := ((hf p (by simp)).but b1 s0).mono (by decide)
      have fq : Fra 101 H1 p2 := ((hf p2 (by simp)).but b1 s0).mono (by decide)
      have b01 := bt.trans b1
      have fl : ∀ (H2 : Hp) (o : HO) (r : Addr), H2 l = some (.lst [.ref p, .ref p2]) → Fra 101 H2 r → Fra 101 (upd H2 l o) r := fun H2 o r hh ⟨n, d, e, z⟩ => by
        refine ⟨n, d, ?_, z⟩
        rw [upd_ne fun cc => ?_]
        · exact e
        · rw [cc, hh] at e
          cases e
      have bl : ∀ (H2 : Hp) (o : HO), But st H1 H2 → But st H (upd H2 l o) := fun H2 o bb b x nb e => by
        rw [upd_ne fun cc => ?_]
        · exact (b01.trans bb) b x nb e
        · rw [cc, nl] at e
          cases e
      have no : ∀ {i j : Int}, i ≠ j → ¬ (decide (V.int i = V.int j) = true) := fun h z => h (V.int.inj (of_decide_eq_true z))
      refine ⟨_, rfl, rfl, _, rfl, ite2 (fun e => ?_) (fun e => ?_)⟩
      · have e0 : d1 = 0 := V.int.inj (of_decide_eq_true e)
        subst e0
        refine ⟨_, rfl, l, _, 0, _, rfl, rfl, SqL.of hl1, atI_nat (j := 0) rfl, _, rfl, l, _, 1, 1, rfl, rfl, hl1, rfl, ?_⟩
        refine ⟨_, rfl, rfl, _, rfl, ite2 (fun e2 => absurd e2 (no (by decide))) (fun _ => ?_)⟩
        refine ⟨_, rfl, rfl, _, rfl, ite2 (fun e2 => absurd e2 (no (by decide))) (fun _ => ?_)⟩
        exact ⟨_, rfl, q _ l p p (bl _ _ (But.refl _ _)) (s1.other ls lc) upd_same (fl _ _ _ hl1 fp) (fl _ _ _ hl1 fp)⟩
      · refine ⟨_, rfl, rfl, _, rfl, ite2 (fun e1 => ?_) (fun e1 => ?_)⟩
        · have e0 : d1 = 1 := V.int.inj (of_decide_eq_true e1)
          subst e0
          obtain ⟨n, d, hp, z1, z2, z3⟩ := id fp
          refine ⟨_, rfl, l, _, 0, _, rfl, rfl, SqL.of hl1, atI_nat (j := 0) rfl, p, n, d, rfl, hp, fun r nr => ?_⟩
          have sr := same_new (o := .tup [.int (0 - n), .int d]) nr
          have hl2 := sr _ _ hl1
          refine ⟨_, rfl, l, _, 1, 1, rfl, rfl, hl2, rfl, ?_⟩
          refine ⟨_, rfl, rfl, _, rfl, ite2 (fun e2 => absurd e2 (no (by decide))) (fun _ => ?_)⟩
          exact ⟨_, rfl, q _ l p r (bl _ _ (Same.but sr)) ((s1.same sr).other ls lc) upd_same (fl _ _ _ hl2 (fp.same sr)) (fl _ _ _ hl2 ⟨0 - n, d, upd_same, z1, by omega, z3⟩)⟩
        · refine ⟨_, rfl, rfl, _, rfl, ite2 (fun e2 => ?_) (fun e2 => ?_)⟩
          · obtain ⟨n, d, hp, z1, z2, z3⟩ := (hf p (by simp)).but b1 s0
            have n1 : d ≠ 0 := by omega
            refine ⟨_, rfl, l, _, 0, _, rfl, rfl, SqL.of hl1, atI_nat (j := 0) rfl, p, _, 0, _, rfl, rfl, SqT.of hp, atI_nat (j := 0) rfl, 1, n, rfl, rfl, ?_⟩
            refine ⟨_, rfl, l, _, 0, _, rfl, rfl, SqL.of hl1, atI_nat (j := 0) rfl, p, _, 1, _, rfl, rfl, SqT.of hp, atI_nat (j := 1) rfl, 1 + n, d, rfl, n1, sm_mono z3 (by decide), fun r nr => ?_⟩
            have sr := same_new (o := .tup [.int (fr1 (1 + n) d), .int (fr2 (1 + n) d)]) nr
            have hl2 := sr _ _ hl1
            refine ⟨_, rfl, l, _, 1, 1, rfl, rfl, hl2, rfl, ?_⟩
            exact ⟨_, rfl, q _ l p r (bl _ _ (Same.but sr)) ((s1.same sr).other ls lc) upd_same (fl _ _ _ hl2 (fp.same sr)) (fl _ _ _ hl2 (fra_new n1 (by omega) (sm_mono z3 (by decide))))⟩
          · exact ⟨_, rfl, q _ l p p2 b01 s1 hl1 fp fq⟩
end
end SS
namespace SS
open PySem PySem.Spec PyProof.Rows L2
theorem pe_when {X : Cx} {p : Prop} {e : Expr} {t : TE} (h : p → PE X e t) : PE X e (fun σ H Q => p ∧ t σ H Q) := ⟨fun pins s σ H Q I z => (h z.1).run pins s σ H Q I z.2⟩
section
variable {P : Program} {w : World} {K : PySem.W.Frag} {mg : Str → Option Value} {base : Heap}
def spByN : Sp := fun vs H Q _ => ∃ p : Addr, vs = [.ref p] ∧ Fra 101 H p ∧ ∀ H', Same H H' → Q (.bl true) H'
theorem scByN : FnScope ["_law_a", "_law_refused", "e"] ["_law_a"] (defScope sByN) := ⟨rfl, rfl, rfl, by decide +kernel, rfl, by decide +kernel, by decide +kernel⟩
theorem kit_self (K : PySem.W.Frag) (C : Addr) : PySem.W.kitOne K (.ref C) (.ref C) = some true := if_pos (beq_self_eq_true _)
theorem ok_byn {f C SE : Addr} {fd : FuncData} (F : Fun K "_law_by_nought" "_law_by_nought" sByN f fd) (T : ExT K mg "NoFraction" C) (gS : mg "StoreError" = some (.ref SE)) (ex : PySem.W.exmOne K (.ref C) (.ref SE) = some true) (EC : ExcC K C)
    (mi : mg "isinstance" = none) (ov : Cl P w K mg base (L2.CX P w) 4 "over" (spOver C) []) : FnOk P w K mg base CX0 5 f fd ["_law_a"] spByN := by
  refine F.ok scByN (fun vs H Q E h => ?_) (fun cdv A outer s H vs Q E hr h => ?_)
  · obtain ⟨_, rfl, _⟩ := h
    rfl
  · obtain ⟨p, rfl, fp, q⟩ := h
    refine ⟨_, pss_cons (ps_set (i := 1) scByN.nd rfl (.inl rfl) pe_bl)
      (pss_cons (ps_try_as (i := 2) (Wout := fun _ _ _ _ => False) rfl rfl scByN.nd rfl rfl ⟨rfl, by decide, .inl gS⟩ takes0
        (fun W pn xe tk _ => pss_one (ps_expr (pcS ov hr (by decide) (fun σ => passAt tk σ) (pa_cons (pv 0) (pa_cons (pe_tup (pa_cons pe_int (pa_cons pe_int pa_nil))) pa_nil)))))
        (fun a oe cls d pn hz hf => pss_one (ps_set (i := 1) scByN.nd rfl (.inl rfl) (pe_when (p := cls = .ref C ∧ d = none)
          (fun ⟨e1, e2⟩ => pe_callB (call_isE (D := C) EC (by rw [← e1, ← e2]; exact hz) hf) (by rfl) mi boot_isinstance (pa_cons (pv 2) (pa_cons (pe_glob (v := .ref C) (by rfl) T.gC rfl) pa_nil)))))))
      (pss_one (ps_ret (pv 1)))), ?_⟩
    obtain ⟨n, d, hp, z1, z2, z3⟩ := fp
    refine ⟨_, rfl, small2, fun U nU => ?_⟩
    have sU := same_new (o := .tup [.int 0, .int 1]) nU
    refine ⟨n, d, 0, 1, ⟨p, U, rfl, sU _ _ hp, upd_same, z1, by decide, sm_mono z2 (by decide), sm_mono z3 (by decide), sm_mono (b := 128) (a := 1) (by decide) (by decide), sm_mono (b := 128) (a := 1) (by decide) (by decide)⟩, fun _ => ?_, fun h => absurd rfl h⟩
    refine ⟨true, ex, fun _ a ha => ?_, fun z => Bool.noConfusion z⟩
    refine ⟨⟨rfl, rfl⟩, _, rfl, _, _, true, rfl, fun u r => r.symm ▸ rfl, kit_self K C, ?_⟩
    exact ⟨_, rfl, q _ sU⟩
end
end SS
namespace SS
open PySem PySem.Spec PyProof.Rows L2
section
variable {P : Program} {w : World} {K : PySem.W.Frag} {mg : Str → Option Value} {base : Heap}
def spLaw (K : PySem.W.Frag) : Sp := fun vs H Q _ => ∃ (a : Addr) (ns : List Int), vs = [.ref a] ∧ SqL K H a (ns.map V.int) ∧ ∀ H', Q (.bl true) H'
theorem scLaw : FnScope ["_law_script", "_law_state", "_law_k", "_law_a", "_law_b", "_law_x", "_law_y", "_law_under", "_law_found", "_law_due"] ["_law_script"] (defScope sLaw) := ⟨rfl, rfl, rfl, by decide +kernel, rfl, by decide +kernel, by decide +kernel⟩
theorem two_of {H : Hp} {p q : Addr} {n1 d1 n2 d2 : Int} (h1 : H p = some (.tup [.int n1, .int d1])) (h2 : H q = some (.tup [.int n2, .int d2])) (z1 : 0 < d1) (z2 : 0 < d2)
    (b1 : n1.natAbs < 2 ^ 101) (b2 : d1.natAbs < 2 ^ 101) (b3 : n2.natAbs < 2 ^ 101) (b4 : d2.natAbs < 2 ^ 101) : Two H [.ref p, .ref q] n1 d1 n2 d2 :=
  ⟨p, q, rfl, h1, h2, z1, z2, sm_mono b1 (by decide), sm_mono b2 (by decide), sm_mono b3 (by decide), sm_mono b4 (by decide)⟩
theorem ok_law {f C SE : Addr} {fd : FuncData} (F : Fun K "law" "law" sLaw f fd) (mr : mg "range" = none) (mi : mg "isinstance" = none) (mb : mg "bool" = none)
    (fs : Cl P w K mg base CX0 1 "_law_fresh" (spFresh K) []) (tw : Cl P w K mg base CX0 5 "_law_two" spTwo []) (is : Cl P w K mg base CX0 3 "_law_is" spIs [])
    (pl : Cl P w K mg base CX0 3 "plus" spPlus []) (mn : Cl P w K mg base CX0 4 "minus" spMinus []) (tm : Cl P w K mg base CX0 3 "times" spTimes []) (ov : Cl P w K mg base (L2.CX P w) 4 "over" (spOver C) [])
    (le : Cl P w K mg base CX0 1 "is_less" spLess []) (bn : Cl P w K mg base CX0 5 "_law_by_nought" spByN []) : FnOk P w K mg base CX0 6 f fd ["_law_script"] (spLaw K) := by
  refine F.ok scLaw (fun vs H Q E h => ?_) (fun cdv A outer s H vs Q E hr h => ?_)
  · obtain ⟨_, _, rfl, _⟩ := h
    rfl
  · obtain ⟨a, ns, rfl, hS, q⟩ := h
    refine ⟨_, pss_cons (ps_set (i := 1) scLaw.nd rfl (.inl rfl) (pc0 fs hr (by decide) (pa_cons (pv 0) pa_nil)))
      (pss_cons (ps_for PassesOwn.never rfl (pi_range1 rfl mr (pa_cons pe_int pa_nil)) (pg_name (i := 2) scLaw.nd rfl (.inl rfl))
        (pss_cons (ps_asg (pc0 tw hr (by decide) (pa_cons (pv 1) pa_nil)) (pg_lst rfl (pgs_cons (pg_name (i := 3) scLaw.nd rfl (.inl rfl)) (pgs_cons (pg_name (i := 4) scLaw.nd rfl (.inl rfl)) pgs_nil))))
        (pss_cons (ps_par (i := 5) (j := 6) rfl scLaw.nd rfl rfl (by decide) rfl rfl (pa_cons (pe_op op_mulW (pe_ix ix_tup (pv 3) pe_int (fun _ _ => rfl)) (pe_ix ix_tup (pv 4) pe_int (fun _ _ => rfl)))
          (pa_cons (pe_op op_mulW (pe_ix ix_tup (pv 4) pe_int (fun _ _ => rfl)) (pe_ix ix_tup (pv 3) pe_int (fun _ _ => rfl))) pa_nil)) rfl)
        (pss_cons (ps_set (i := 7) scLaw.nd rfl (.inl rfl) (pe_op op_mulW (pe_ix ix_tup (pv 3) pe_int (fun _ _ => rfl)) (pe_ix ix_tup (pv 4) pe_int (fun _ _ => rfl))))
        (pss_cons (ps_if (PW.pt (pw_or (pt_not (pt_val (pc0 is hr (by decide) (pa_cons (pc0 pl hr (by decide) (pa_cons (pv 3) (pa_cons (pv 4) pa_nil))) (pa_cons (pe_op op_add (pv 5) (pv 6)) (pa_cons (pv 7) pa_nil))))))
          (pw_or1 (pt_not (pt_val (pc0 is hr (by decide) (pa_cons (pc0 mn hr (by decide) (pa_cons (pv 3) (pa_cons (pv 4) pa_nil))) (pa_cons (pe_op op_sub (pv 5) (pv 6)) (pa_cons (pv 7) pa_nil)))))))))
          (pss_one (ps_ret pe_bl)) pss_nil)
        (pss_cons (ps_if (pt_not (pt_val (pc0 is hr (by decide) (pa_cons (pc0 tm hr (by decide) (pa_cons (pv 3) (pa_cons (pv 4) pa_nil))) (pa_cons (pe_op op_mulW (pe_ix ix_tup (pv 3) pe_int (fun _ _ => rfl)) (pe_ix ix_tup (pv 4) pe_int (fun _ _ => rfl))) (pa_cons (pv 7) pa_nil))))))
          (pss_one (ps_ret pe_bl)) pss_nil)
        (pss_cons (ps_if (PW.pt (pw_and (pt_cmpR op_ne (pe_ix ix_tup (pv 4) pe_int (fun _ _ => rfl)) pe_int (nomark _))
          (pw_and1 (pt_not (pt_val (pc0 is hr (by decide) (pa_cons (pcX ov hr (by decide) (pa_cons (pv 3) (pa_cons (pv 4) pa_nil)))
            (pa_cons (pe_op op_mulW (pe_ix ix_tup (pv 3) pe_int (fun _ _ => rfl)) (pe_ix ix_tup (pv 4) pe_int (fun _ _ => rfl)))
            (pa_cons (pe_op op_mulW (pe_ix ix_tup (pv 3) pe_int (fun _ _ => rfl)) (pe_ix ix_tup (pv 4) pe_int (fun _ _ => rfl))) pa_nil)))))))))
          (pss_one (ps_ret pe_bl)) pss_nil)
        (pss_cons (ps_for PassesOwn.never rfl (pi_tup (pe_tup
            (pa_cons (pe_tup (pa_cons (pc0 le hr (by decide) (pa_cons (pv 3) (pa_cons (pv 4) pa_nil))) (pa_cons (pe_cmpR op_lt (pv 5) (pv 6) (nomark _)) pa_nil)))
            (pa_cons (pe_tup (pa_cons (pc0 le hr (by decide) (pa_cons (pv 4) (pa_cons (pv 3) pa_nil))) (pa_cons (pe_cmpR op_lt (pv 6) (pv 5) (nomark _)) pa_nil)))
            (pa_cons (pe_tup (pa_cons (pc0 le hr (by decide) (pa_cons (pv 3) (pa_cons (pv 3) pa_nil))) (pa_cons pe_bl pa_nil))) pa_nil)))))
          (pg_tup rfl (pgs_cons (pg_name (i := 8) scLaw.nd rfl (.inl rfl)) (pgs_cons (pg_name (i := 9) scLaw.nd rfl (.inl rfl)) pgs_nil)))
          (pss_one (ps_if (PW.pt (pw_or (pt_not (pt_val (pe_callB call_isi (by rfl) mi boot_isinstance (pa_cons (pv 8) (pa_cons (pe_bltn (v := .ty "bool") (u := .type "bool") (by rfl) mb (by decide +kernel) rfl) pa_nil)))))
            (pw_or1 (pt_cmpR op_ne (pv 8) (pv 9) (nomark _))))) (pss_one (ps_ret pe_bl)) pss_nil)))
        (pss_one (ps_if (pt_not (pt_val (pc0 bn hr (by decide) (pa_cons (pv 3) pa_nil)))) (pss_one (ps_ret pe_bl)) pss_nil))))))))))
      (pss_one (ps_ret pe_bl))), ?_⟩
    refine ⟨_, rfl, a, ns, rfl, hS, fun H1 st c s1 ns1 nc1 sa1 => ?_⟩
    refine ⟨3, rfl, by decide, by decide, for_range (n := 3) (fun i σ H' => ∃ (y2 y3 y4 y5 y6 y7 y8 y9 : Option V), σ = [some (.ref a), some (.ref st), y2, y3, y4, y5, y6, y7, y8, y9] ∧ StA st c H')
      ⟨none, none, none, none, none, none, none, none, rfl, sa1⟩ ?_ (fun σ H' _ => q H')⟩
    rintro i σ H0 hi ⟨y2, y3, y4, y5, y6, y7, y8, y9, rfl, s0⟩
    refine ⟨_, rfl, st, c, rfl, s0, fun H2 l p p2 b2 s2 hl fp fq => ?_⟩
    refine ⟨l, _, rfl, SqL.of hl, rfl, _, _, rfl, _, _, rfl, rfl, ?_⟩
    obtain ⟨n1, d1, h1, z1, e1, e2⟩ := fp
    obtain ⟨n2, d2, h2, z2, e3, e4⟩ := fq
    have W : ∀ {i j : Int}, i.natAbs < 2 ^ 101 → j.natAbs < 2 ^ 101 → CMulW i j := fun x y => wide_mul x y (by decide) (by decide) (by decide)
    have M : ∀ {i j : Int}, i.natAbs < 2 ^ 101 → j.natAbs < 2 ^ 101 → (i * j).natAbs < 2 ^ 202 := fun x y => sm_mul x y
    have M9 : ∀ {i j : Int}, i.natAbs < 2 ^ 101 → j.natAbs < 2 ^ 101 → (i * j).natAbs < 2 ^ 9000 := fun x y => sm_mono (sm_mul x y) (by decide)
    refine ⟨_, rfl, p, _, 0, _, rfl, rfl, SqT.of h1, atI_nat (j := 0) rfl, _, rfl, p2, _, 1, _, rfl, rfl, SqT.of h2, atI_nat (j := 1) rfl, n1, d2, rfl, rfl, W e1 e4, ?_⟩
    refine ⟨_, rfl, p2, _, 0, _, rfl, rfl, SqT.of h2, atI_nat (j := 0) rfl, _, rfl, p, _, 1, _, rfl, rfl, SqT.of h1, atI_nat (j := 1) rfl, n2, d1, rfl, rfl, W e3 e2, _, _, rfl, ?_⟩
    refine ⟨_, rfl, p, _, 1, _, rfl, rfl, SqT.of h1, atI_nat (j := 1) rfl, _, rfl, p2, _, 1, _, rfl, rfl, SqT.of h2, atI_nat (j := 1) rfl, d1, d2, rfl, rfl, W e2 e4, ?_⟩
    have T2 := two_of h1 h2 z1 z2 e1 e2 e3 e4
    have nz : d1 * d2 ≠ 0 := pos_ne z1 z2
    have F0 : (d1 * d2).natAbs < 2 ^ 9000 := M9 e2 e4
    have F1 : (n1 * d2 + n2 * d1).natAbs < 2 ^ 9000 := sm_mono (sm_add (M e1 e4) (M e3 e2)) (by decide)
    have F2 : (n1 * d2 - n2 * d1).natAbs < 2 ^ 9000 := sm_mono (sm_sub (M e1 e4) (M e3 e2)) (by decide)
    have F3 : (n1 * n2).natAbs < 2 ^ 9000 := M9 e1 e3
    -- plus
    refine ⟨_, rfl, _, rfl, n1, d1, n2, d2, T2, fun r nr => ?_⟩
    have sr := same_new (o := .tup [.int (fr1 (n1 * d2 + n2 * d1) (d1 * d2)), .int (fr2 (n1 * d2 + n2 * d1) (d1 * d2))]) nr
    refine ⟨_, rfl, _, rfl, n1 * d2, n2 * d1, rfl, rfl, _, rfl, r, fr1 (n1 * d2 + n2 * d1) (d1 * d2), fr2 (n1 * d2 + n2 * d1) (d1 * d2), (n1 * d2 + n2 * d1), (d1 * d2), rfl, upd_same, fr2_pos nz, fr_gcd nz, fr_cross nz, Nat.lt_of_le_of_lt (fr1_le nz) F1, Nat.lt_of_le_of_lt (fr2_le nz) F0, F1, F0, fun H3 s3 => ⟨_, rfl, iteF ?_⟩⟩
    have S3 : Same H2 H3 := sr.trans s3
    -- minus
    refine ⟨_, rfl, _, rfl, n1, d1, n2, d2, two_of (S3 _ _ h1) (S3 _ _ h2) z1 z2 e1 e2 e3 e4, fun H3b s3b r2 nr2 => ?_⟩
    have sr2 := s3b.trans (same_new (o := .tup [.int (fr1 (n1 * d2 - n2 * d1) (d1 * d2)), .int (fr2 (n1 * d2 - n2 * d1) (d1 * d2))]) nr2)
    refine ⟨_, rfl, _, rfl, n1 * d2, n2 * d1, rfl, rfl, _, rfl, r2, fr1 (n1 * d2 - n2 * d1) (d1 * d2), fr2 (n1 * d2 - n2 * d1) (d1 * d2), (n1 * d2 - n2 * d1), (d1 * d2), rfl, upd_same, fr2_pos nz, fr_gcd nz, fr_cross nz, Nat.lt_of_le_of_lt (fr1_le nz) F2, Nat.lt_of_le_of_lt (fr2_le nz) F0, F2, F0, fun H4 s4 => ⟨_, rfl, iteF ?_⟩⟩
    have S4 : Same H2 H4 := S3.trans (sr2.trans s4)
    -- times
    refine ⟨_, rfl, _, rfl, n1, d1, n2, d2, two_of (S4 _ _ h1) (S4 _ _ h2) z1 z2 e1 e2 e3 e4, fun r3 nr3 => ?_⟩
    have sr3 := same_new (o := .tup [.int (fr1 (n1 * n2) (d1 * d2)), .int (fr2 (n1 * n2) (d1 * d2))]) nr3
    have S4' := S4.trans sr3
    refine ⟨_, rfl, p, _, 0, _, rfl, rfl, SqT.of (S4' _ _ h1), atI_nat (j := 0) rfl, _, rfl, p2, _, 0, _, rfl, rfl, SqT.of (S4' _ _ h2), atI_nat (j := 0) rfl, n1, n2, rfl, rfl, W e1 e3, _, rfl, r3, fr1 (n1 * n2) (d1 * d2), fr2 (n1 * n2) (d1 * d2), (n1 * n2), (d1 * d2), rfl, upd_same, fr2_pos nz, fr_gcd nz, fr_cross nz, Nat.lt_of_le_of_lt (fr1_le nz) F3, Nat.lt_of_le_of_lt (fr2_le nz) F0, F3, F0, fun H5 s5 => ⟨_, rfl, iteF ?_⟩⟩
    have S5 : Same H2 H5 := S4'.trans s5
    refine ⟨_, rfl, p2, _, 0, _, rfl, rfl, SqT.of (S5 _ _ h2), atI_nat (j := 0) rfl, rfl, _, rfl, ite2 (fun e => ?_) (fun e => iteF ?_)⟩
    have n0 : n2 ≠ 0 := fun z => by
      rw [z] at e
      exact absurd e (by decide)
    have nz2 : d1 * n2 ≠ 0 := Int.mul_ne_zero (Int.ne_of_gt z1) n0
    refine ⟨_, rfl, _, rfl, n1, d1, n2, d2, two_of (S5 _ _ h1) (S5 _ _ h2) z1 z2 e1 e2 e3 e4, fun z => absurd z n0, fun _ H5b s5b r4 nr4 => ?_⟩
    have sr4 := s5b.trans (same_new (o := .tup [.int (fr1 (n1 * d2) (d1 * n2)), .int (fr2 (n1 * d2) (d1 * n2))]) nr4)
    have S5' := S5.trans sr4
    have F4 : (n1 * d2).natAbs < 2 ^ 9000 := M9 e1 e4
    have F5 : (d1 * n2).natAbs < 2 ^ 9000 := M9 e2 e3
    refine ⟨_, rfl, p, _, 0, _, rfl, rfl, SqT.of (S5' _ _ h1), atI_nat (j := 0) rfl, _, rfl, p2, _, 1, _, rfl, rfl, SqT.of (S5' _ _ h2), atI_nat (j := 1) rfl, n1, d2, rfl, rfl, W e1 e4, ?_⟩
    refine ⟨_, rfl, p, _, 1, _, rfl, rfl, SqT.of (S5' _ _ h1), atI_nat (j := 1) rfl, _, rfl, p2, _, 0, _, rfl, rfl, SqT.of (S5' _ _ h2), atI_nat (j := 0) rfl, d1, n2, rfl, rfl, W e2 e3, ?_⟩
    refine ⟨r4, fr1 (n1 * d2) (d1 * n2), fr2 (n1 * d2) (d1 * n2), (n1 * d2), (d1 * n2), rfl, upd_same, fr2_pos nz2, fr_gcd nz2, fr_cross nz2, Nat.lt_of_le_of_lt (fr1_le nz2) F4, Nat.lt_of_le_of_lt (fr2_le nz2) F5, F4, F5, fun H6 s6 => ⟨_, rfl, iteF ?_⟩⟩
    have S6 : Same H2 H6 := S5'.trans s6
    rotate_left
    obtain ⟨H6, rfl⟩ : ∃ H6, H6 = H5 := ⟨_, rfl⟩
    have S6 := S5
    all_goals
      have T6 := two_of (S6 _ _ h1) (S6 _ _ h2) z1 z2 e1 e2 e3 e4
      refine ⟨_, rfl, _, rfl, n1, d1, n2, d2, T6, _, rfl, _, rfl, n1 * d2, n2 * d1, rfl, rfl, small2, fun t1 nt1 => ?_⟩
      have st1 := same_new (o := .tup [.bl (decide (n1 * d2 < n2 * d1)), .bl (decide (n1 * d2 < n2 * d1))]) nt1
      have S7 := S6.trans st1
      refine ⟨_, rfl, _, rfl, n2, d2, n1, d1, two_of (S7 _ _ h2) (S7 _ _ h1) z2 z1 e3 e4 e1 e2, _, rfl, _, rfl, n2 * d1, n1 * d2, rfl, rfl, small2, fun t2 nt2 => ?_⟩
      have st2 := same_new (o := .tup [.bl (decide (n2 * d1 < n1 * d2)), .bl (decide (n2 * d1 < n1 * d2))]) nt2
      have S8 := S7.trans st2
      refine ⟨_, rfl, _, rfl, n1, d1, n1, d1, two_of (S8 _ _ h1) (S8 _ _ h1) z1 z1 e1 e2 e1 e2, small2, fun t3 nt3 => ?_⟩
      have st3 := same_new (o := .tup [.bl (decide (n1 * d1 < n1 * d1)), .bl false]) nt3
      refine ⟨(by show 3 ≤ sizeLine; decide), fun U nU => ?_⟩
      have sU := same_new (o := .tup [.ref t1, .ref t2, .ref t3]) nU
      have k1 := sU _ _ (st3 _ _ (st2 _ _ (upd_same (H := H6) (a := t1))))
      have k2 := sU _ _ (st3 _ _ (upd_same (H := upd H6 t1 _) (a := t2)))
      have k3 := sU _ _ (upd_same (a := t3))
      have S9 := (S8.trans st3).trans sU
      have kU := upd_same (H := upd (upd (upd H6 t1 (.tup [.bl (decide (n1 * d2 < n2 * d1)), .bl (decide (n1 * d2 < n2 * d1))])) t2 (.tup [.bl (decide (n2 * d1 < n1 * d2)), .bl (decide (n2 * d1 < n1 * d2))])) t3 (.tup [.bl (decide (n1 * d1 < n1 * d1)), .bl false])) (a := U) (o := .tup [.ref t1, .ref t2, .ref t3])
      refine ⟨U, rfl, ⟨_, SqT.of kU⟩, for_tup (K := K) (a := U) (xs := [.ref t1, .ref t2, .ref t3]) (fun j σ H' => ∃ y8 y9 : Option V, σ = [some (.ref a), some (.ref st), some (.int (0 + (i : Nat))), some (.ref p), some (.ref p2), some (.int (n1 * d2)), some (.int (n2 * d1)), some (.int (d1 * d2)), y8, y9] ∧
        Same H2 H' ∧ H' t1 = some (.tup [.bl (decide (n1 * d2 < n2 * d1)), .bl (decide (n1 * d2 < n2 * d1))]) ∧ H' t2 = some (.tup [.bl (decide (n2 * d1 < n1 * d2)), .bl (decide (n2 * d1 < n1 * d2))]) ∧
        H' t3 = some (.tup [.bl (decide (n1 * d1 < n1 * d1)), .bl false]) ∧ H' U = some (.tup [.ref t1, .ref t2, .ref t3]))
        ⟨_, _, rfl, S9, k1, k2, k3, kU⟩ (fun j σ H' _ hW => ?_) ?_ ?_⟩
      · obtain ⟨_, _, _, _, _, _, _, kk⟩ := hW
        exact SqT.of kk
      · rintro j x σ H' hx ⟨y8, y9, rfl, S', k1', k2', k3', kU'⟩
        obtain ⟨t, bb, rfl, ht⟩ : ∃ (t : Addr) (bb : Bool), x = .ref t ∧ H' t = some (.tup [.bl bb, .bl bb]) := by
          match j, hx with
          | 0, hx => exact ⟨t1, _, (Option.some.inj hx).symm, k1'⟩
          | 1, hx => exact ⟨t2, _, (Option.some.inj hx).symm, k2'⟩
          | 2, hx =>
            rw [decide_eq_false (Int.lt_irrefl _)] at k3'
            exact ⟨t3, _, (Option.some.inj hx).symm, k3'⟩
        refine ⟨t, _, rfl, SqT.of ht, rfl, _, _, rfl, _, _, rfl, rfl, ?_⟩
        refine ⟨_, rfl, .bl bb, .ty "bool", .type "bool", .type "bool", true, rfl, .ty _, .base (.bl bb), kit_ty (by decide +kernel), _, rfl, iteF ?_⟩
        refine ⟨_, rfl, _, rfl, rfl, _, rfl, iteNS rfl ?_⟩
        exact ⟨_, _, rfl, S', k1', k2', k3', kU'⟩
      · rintro σ H' ⟨y8, y9, rfl, S', _⟩
        refine ⟨_, rfl, p, rfl, ⟨n1, d1, S' _ _ h1, z1, e1, e2⟩, fun H7 s7 => ⟨_, rfl, iteF ?_⟩⟩
        exact ⟨_, _, _, _, _, _, _, _, rfl, s2.same (S'.trans s7)⟩
end
end SS
namespace SS
open PySem PySem.Spec PyProof.Rows L2
/-! ### what the top leaves -/
theorem all_mk {l : PySem.W.OpenLaw} {w : World} {K : PySem.W.Frag} {h : Heap} {mg : Str → Option Value} {fa : Addr} (X : K.In h) (G : h.Ns mainGlobals mg) (hfa : mg "law" = some (.ref fa))
    {f0 : Addr} {od0 an0 : Option Addr} {sl0 : Array (Option Value)} {oc0 kV0 dc0 pm0 cd0 ct0 : Value}
    {f1 : Addr} {od1 an1 : Option Addr} {sl1 : Array (Option Value)} {oc1 kV1 dc1 pm1 cd1 ct1 : Value}
    {T1 : Addr} {odT1 : Option Addr} {slT1 : Array (Option Value)} {ocT1 : Value} {nT1 : Nat} {tT1 : Tok}
    {f2 : Addr} {od2 an2 : Option Addr} {sl2 : Array (Option Value)} {oc2 kV2 dc2 pm2 cd2 ct2 : Value}
    {f3 : Addr} {od3 an3 : Option Addr} {sl3 : Array (Option Value)} {oc3 kV3 dc3 pm3 cd3 ct3 : Value}
    {f4 : Addr} {od4 an4 : Option Addr} {sl4 : Array (Option Value)} {oc4 kV4 dc4 pm4 cd4 ct4 : Value}
    {f5 : Addr} {od5 an5 : Option Addr} {sl5 : Array (Option Value)} {oc5 kV5 dc5 pm5 cd5 ct5 : Value}
    {f6 : Addr} {od6 an6 : Option Addr} {sl6 : Array (Option Value)} {oc6 kV6 dc6 pm6 cd6 ct6 : Value}
    {f7 : Addr} {od7 an7 : Option Addr} {sl7 : Array (Option Value)} {oc7 kV7 dc7 pm7 cd7 ct7 : Value}
    {f8 : Addr} {od8 an8 : Option Addr} {sl8 : Array (Option Value)} {oc8 kV8 dc8 pm8 cd8 ct8 : Value}
    {f9 : Addr} {od9 an9 : Option Addr} {sl9 : Array (Option Value)} {oc9 kV9 dc9 pm9 cd9 ct9 : Value}
    {f10 : Addr} {od10 an10 : Option Addr} {sl10 : Array (Option Value)} {oc10 kV10 dc10 pm10 cd10 ct10 : Value}
    {f11 : Addr} {od11 an11 : Option Addr} {sl11 : Array (Option Value)} {oc11 kV11 dc11 pm11 cd11 ct11 : Value}
    {f12 : Addr} {od12 an12 : Option Addr} {sl12 : Array (Option Value)} {oc12 kV12 dc12 pm12 cd12 ct12 : Value}
    {f13 : Addr} {od13 an13 : Option Addr} {sl13 : Array (Option Value)} {oc13 kV13 dc13 pm13 cd13 ct13 : Value}
    {f14 : Addr} {od14 an14 : Option Addr} {sl14 : Array (Option Value)} {oc14 kV14 dc14 pm14 cd14 ct14 : Value}
    {f15 : Addr} {od15 an15 : Option Addr} {sl15 : Array (Option Value)} {oc15 kV15 dc15 pm15 cd15 ct15 : Value}
    {f16 : Addr} {od16 an16 : Option Addr} {sl16 : Array (Option Value)} {oc16 kV16 dc16 pm16 cd16 ct16 : Value}
    {f17 : Addr} {od17 an17 : Option Addr} {sl17 : Array (Option Value)} {oc17 kV17 dc17 pm17 cd17 ct17 : Value}
    {f18 : Addr} {od18 an18 : Option Addr} {sl18 : Array (Option Value)} {oc18 kV18 dc18 pm18 cd18 ct18 : Value}
    {f19 : Addr} {od19 an19 : Option Addr} {sl19 : Array (Option Value)} {oc19 kV19 dc19 pm19 cd19 ct19 : Value}
    {f20 : Addr} {od20 an20 : Option Addr} {sl20 : Array (Option Value)} {oc20 kV20 dc20 pm20 cd20 ct20 : Value}
    {f21 : Addr} {od21 an21 : Option Addr} {sl21 : Array (Option Value)} {oc21 kV21 dc21 pm21 cd21 ct21 : Value}
    {C : Addr} {tSb : Tok}
    {S : Addr}
    (a0 : PySem.W.nsIn K mainGlobals "common_divisor" = some (some (.ref f0)))
    (l0 : K.lookup f0 = some ⟨oc0, od0, .func (PySem.W.fnOf "common_divisor" "common_divisor" (defArgs sCd) (defBody sCd) (defScope sCd) .none kV0 dc0 pm0 an0 cd0 ct0), sl0⟩)
    (c0 : PySem.W.codeIn K cd0 "common_divisor" = true)
    (k0 : PySem.W.keepIn K (.ref f0) = true)
    (a1 : PySem.W.nsIn K mainGlobals "fraction_of" = some (some (.ref f1)))
    (l1 : K.lookup f1 = some ⟨oc1, od1, .func (PySem.W.fnOf "fraction_of" "fraction_of" (defArgs sFo) (defBody sFo) (defScope sFo) (.ref T1) kV1 dc1 pm1 an1 cd1 ct1), sl1⟩)
    (t1 : K.lookup T1 = some ⟨ocT1, odT1, .seq #[.int 1 tT1] nT1, slT1⟩)
    (c1 : PySem.W.codeIn K cd1 "fraction_of" = true)
    (k1 : PySem.W.keepIn K (.ref f1) = true)
    (a2 : PySem.W.nsIn K mainGlobals "are_short" = some (some (.ref f2)))
    (l2 : K.lookup f2 = some ⟨oc2, od2, .func (PySem.W.fnOf "are_short" "are_short" (defArgs sAre) (defBody sAre) (defScope sAre) .none kV2 dc2 pm2 an2 cd2 ct2), sl2⟩)
    (c2 : PySem.W.codeIn K cd2 "are_short" = true)
    (k2 : PySem.W.keepIn K (.ref f2) = true)
    (a3 : PySem.W.nsIn K mainGlobals "plus" = some (some (.ref f3)))
    (l3 : K.lookup f3 = some ⟨oc3, od3, .func (PySem.W.fnOf "plus" "plus" (defArgs sPlus) (defBody sPlus) (defScope sPlus) .none kV3 dc3 pm3 an3 cd3 ct3), sl3⟩)
    (c3 : PySem.W.codeIn K cd3 "plus" = true)
    (k3 : PySem.W.keepIn K (.ref f3) = true)
    (a4 : PySem.W.nsIn K mainGlobals "minus" = some (some (.ref f4)))
    (l4 : K.lookup f4 = some ⟨oc4, od4, .func (PySem.W.fnOf "minus" "minus" (defArgs sMinus) (defBody sMinus) (defScope sMinus) .none kV4 dc4 pm4 an4 cd4 ct4), sl4⟩)
    (c4 : PySem.W.codeIn K cd4 "minus" = true)
    (k4 : PySem.W.keepIn K (.ref f4) = true)
    (a5 : PySem.W.nsIn K mainGlobals "times" = some (some (.ref f5)))
    (l5 : K.lookup f5 = some ⟨oc5, od5, .func (PySem.W.fnOf "times" "times" (defArgs sTimes) (defBody sTimes) (defScope sTimes) .none kV5 dc5 pm5 an5 cd5 ct5), sl5⟩)
    (c5 : PySem.W.codeIn K cd5 "times" = true)
    (k5 : PySem.W.keepIn K (.ref f5) = true)
    (a6 : PySem.W.nsIn K mainGlobals "over" = some (some (.ref f6)))
    (l6 : K.lookup f6 = some ⟨oc6, od6, .func (PySem.W.fnOf "over" "over" (defArgs sOver) (defBody sOver) (defScope sOver) .none kV6 dc6 pm6 an6 cd6 ct6), sl6⟩)
    (c6 : PySem.W.codeIn K cd6 "over" = true)
    (k6 : PySem.W.keepIn K (.ref f6) = true)
    (a7 : PySem.W.nsIn K mainGlobals "is_less" = some (some (.ref f7)))
    (l7 : K.lookup f7 = some ⟨oc7, od7, .func (PySem.W.fnOf "is_less" "is_less" (defArgs sLess) (defBody sLess) (defScope sLess) .none kV7 dc7 pm7 an7 cd7 ct7), sl7⟩)
    (c7 : PySem.W.codeIn K cd7 "is_less" = true)
    (k7 : PySem.W.keepIn K (.ref f7) = true)
    (a8 : PySem.W.nsIn K mainGlobals "_law_fresh" = some (some (.ref f8)))
    (l8 : K.lookup f8 = some ⟨oc8, od8, .func (PySem.W.fnOf "_law_fresh" "_law_fresh" (defArgs sFresh) (defBody sFresh) (defScope sFresh) .none kV8 dc8 pm8 an8 cd8 ct8), sl8⟩)
    (c8 : PySem.W.codeIn K cd8 "_law_fresh" = true)
    (k8 : PySem.W.keepIn K (.ref f8) = true)
    (a9 : PySem.W.nsIn K mainGlobals "_law_mixed" = some (some (.ref f9)))
    (l9 : K.lookup f9 = some ⟨oc9, od9, .func (PySem.W.fnOf "_law_mixed" "_law_mixed" (defArgs sMixed) (defBody sMixed) (defScope sMixed) .none kV9 dc9 pm9 an9 cd9 ct9), sl9⟩)
    (c9 : PySem.W.codeIn K cd9 "_law_mixed" = true)
    (k9 : PySem.W.keepIn K (.ref f9) = true)
    (a10 : PySem.W.nsIn K mainGlobals "_law_fill" = some (some (.ref f10)))
    (l10 : K.lookup f10 = some ⟨oc10, od10, .func (PySem.W.fnOf "_law_fill" "_law_fill" (defArgs sFill) (defBody sFill) (defScope sFill) .none kV10 dc10 pm10 an10 cd10 ct10), sl10⟩)
    (c10 : PySem.W.codeIn K cd10 "_law_fill" = true)
    (k10 : PySem.W.keepIn K (.ref f10) = true)
    (a11 : PySem.W.nsIn K mainGlobals "_law_take" = some (some (.ref f11)))
    (l11 : K.lookup f11 = some ⟨oc11, od11, .func (PySem.W.fnOf "_law_take" "_law_take" (defArgs sTake) (defBody sTake) (defScope sTake) .none kV11 dc11 pm11 an11 cd11 ct11), sl11⟩)
    (c11 : PySem.W.codeIn K cd11 "_law_take" = true)
    (k11 : PySem.W.keepIn K (.ref f11) = true)
    (a12 : PySem.W.nsIn K mainGlobals "_law_whole" = some (some (.ref f12)))
    (l12 : K.lookup f12 = some ⟨oc12, od12, .func (PySem.W.fnOf "_law_whole" "_law_whole" (defArgs sWhole) (defBody sWhole) (defScope sWhole) .none kV12 dc12 pm12 an12 cd12 ct12), sl12⟩)
    (c12 : PySem.W.codeIn K cd12 "_law_whole" = true)
    (k12 : PySem.W.keepIn K (.ref f12) = true)
    (a13 : PySem.W.nsIn K mainGlobals "_law_shared" = some (some (.ref f13)))
    (l13 : K.lookup f13 = some ⟨oc13, od13, .func (PySem.W.fnOf "_law_shared" "_law_shared" (defArgs sSh) (defBody sSh) (defScope sSh) .none kV13 dc13 pm13 an13 cd13 ct13), sl13⟩)
    (c13 : PySem.W.codeIn K cd13 "_law_shared" = true)
    (k13 : PySem.W.keepIn K (.ref f13) = true)
    (a14 : PySem.W.nsIn K mainGlobals "_law_frac" = some (some (.ref f14)))
    (l14 : K.lookup f14 = some ⟨oc14, od14, .func (PySem.W.fnOf "_law_frac" "_law_frac" (defArgs sFrac) (defBody sFrac) (defScope sFrac) .none kV14 dc14 pm14 an14 cd14 ct14), sl14⟩)
    (c14 : PySem.W.codeIn K cd14 "_law_frac" = true)
    (k14 : PySem.W.keepIn K (.ref f14) = true)
    (a15 : PySem.W.nsIn K mainGlobals "_law_turned" = some (some (.ref f15)))
    (l15 : K.lookup f15 = some ⟨oc15, od15, .func (PySem.W.fnOf "_law_turned" "_law_turned" (defArgs sTurned) (defBody sTurned) (defScope sTurned) .none kV15 dc15 pm15 an15 cd15 ct15), sl15⟩)
    (c15 : PySem.W.codeIn K cd15 "_law_turned" = true)
    (k15 : PySem.W.keepIn K (.ref f15) = true)
    (a16 : PySem.W.nsIn K mainGlobals "_law_is_fraction" = some (some (.ref f16)))
    (l16 : K.lookup f16 = some ⟨oc16, od16, .func (PySem.W.fnOf "_law_is_fraction" "_law_is_fraction" (defArgs sIsf) (defBody sIsf) (defScope sIsf) .none kV16 dc16 pm16 an16 cd16 ct16), sl16⟩)
    (c16 : PySem.W.codeIn K cd16 "_law_is_fraction" = true)
    (k16 : PySem.W.keepIn K (.ref f16) = true)
    (a17 : PySem.W.nsIn K mainGlobals "_law_number" = some (some (.ref f17)))
    (l17 : K.lookup f17 = some ⟨oc17, od17, .func (PySem.W.fnOf "_law_number" "_law_number" (defArgs sNumber) (defBody sNumber) (defScope sNumber) .none kV17 dc17 pm17 an17 cd17 ct17), sl17⟩)
    (c17 : PySem.W.codeIn K cd17 "_law_number" = true)
    (k17 : PySem.W.keepIn K (.ref f17) = true)
    (a18 : PySem.W.nsIn K mainGlobals "_law_two" = some (some (.ref f18)))
    (l18 : K.lookup f18 = some ⟨oc18, od18, .func (PySem.W.fnOf "_law_two" "_law_two" (defArgs sTwo) (defBody sTwo) (defScope sTwo) .none kV18 dc18 pm18 an18 cd18 ct18), sl18⟩)
    (c18 : PySem.W.codeIn K cd18 "_law_two" = true)
    (k18 : PySem.W.keepIn K (.ref f18) = true)
    (a19 : PySem.W.nsIn K mainGlobals "_law_is" = some (some (.ref f19)))
    (l19 : K.lookup f19 = some ⟨oc19, od19, .func (PySem.W.fnOf "_law_is" "_law_is" (defArgs sIs) (defBody sIs) (defScope sIs) .none kV19 dc19 pm19 an19 cd19 ct19), sl19⟩)
    (c19 : PySem.W.codeIn K cd19 "_law_is" = true)
    (k19 : PySem.W.keepIn K (.ref f19) = true)
    (a20 : PySem.W.nsIn K mainGlobals "_law_by_nought" = some (some (.ref f20)))
    (l20 : K.lookup f20 = some ⟨oc20, od20, .func (PySem.W.fnOf "_law_by_nought" "_law_by_nought" (defArgs sByN) (defBody sByN) (defScope sByN) .none kV20 dc20 pm20 an20 cd20 ct20), sl20⟩)
    (c20 : PySem.W.codeIn K cd20 "_law_by_nought" = true)
    (k20 : PySem.W.keepIn K (.ref f20) = true)
    (a21 : PySem.W.nsIn K mainGlobals "law" = some (some (.ref f21)))
    (l21 : K.lookup f21 = some ⟨oc21, od21, .func (PySem.W.fnOf "law" "law" (defArgs sLaw) (defBody sLaw) (defScope sLaw) .none kV21 dc21 pm21 an21 cd21 ct21), sl21⟩)
    (c21 : PySem.W.codeIn K cd21 "law" = true)
    (k21 : PySem.W.keepIn K (.ref f21) = true)
    (z_abs : PySem.W.nsIn K mainGlobals "abs" = some none)
    (z_enumerate : PySem.W.nsIn K mainGlobals "enumerate" = some none)
    (z_len : PySem.W.nsIn K mainGlobals "len" = some none)
    (z_isinstance : PySem.W.nsIn K mainGlobals "isinstance" = some none)
    (z_int : PySem.W.nsIn K mainGlobals "int" = some none)
    (z_bool : PySem.W.nsIn K mainGlobals "bool" = some none)
    (z_tuple : PySem.W.nsIn K mainGlobals "tuple" = some none)
    (z_all : PySem.W.nsIn K mainGlobals "all" = some none)
    (z_range : PySem.W.nsIn K mainGlobals "range" = some none)
    (g_C : PySem.W.nsIn K mainGlobals "NoFraction" = some (some (.ref C)))
    (x_C : PySem.W.excIn K C [.type "ValueError", .type "Exception", .type "BaseException", .type "object"] "ValueError.__new__" = true)
    (k_C : PySem.W.keepIn K (.ref C) = true)
    (b_C : PySem.W.subIn K (.ref C) (.type "BaseException") = some true)
    (t_C : PySem.W.typeIn K (.ref C) = some (.type "type"))
    (g_S : PySem.W.nsIn K mainGlobals "StoreError" = some (some (.ref S)))
    (aSb : PySem.W.nsIn K mainGlobals "SHORT_BITS" = some (some (.int 256 tSb)))
    (e_cs : PySem.W.exmOne K (.ref C) (.ref S) = some true)
    (i_hg : PySem.W.findIn K (.ref C) "__getattribute__" = some (some (.builtin "BaseException.__getattribute__")))
    (i_hk : PySem.W.findIn K (.ref C) "__getattr__" = some none)
    (i_hs : PySem.W.subIn K (.ref C) (.type "BaseException") = some true)
    (i_hd : PySem.W.hasDictIn K C = true)
    (i_ha : PySem.W.findIn K (.ref C) "__class__" = some (some (.builtin "object.__class__")))
    (i_hn : PySem.W.specialIn K (.builtin "object.__class__") "__get__" = some (some (.builtin "getset_descriptor.__get__")))
    (i_ht : PySem.W.takesIn K (.builtin "object.__class__") = some true)
    (i_hm : PySem.W.mroIn K C (.type "object") = some true)
    :
    ∃ fd : FuncData, (∀ (s : Shared) (v : Value), BindsTo s fd ⟨[v], []⟩ [("_law_script", v)]) ∧ ∀ base : Heap, K.In base → base.Ns mainGlobals mg → FnOk l.prog w K mg base CX0 6 fa fd ["_law_script"] (spLaw K) := by
  have e := hfa.symm.trans (PySem.W.mg_of X G a21)
  cases e
  have F0 := fun_mk (st := sCd) l0 c0 k0
  have b0 := F0.binds (ps := ["a", "b"]) fun _ _ _ _ _ _ us hl => match us, hl with | [_, _], _ => rfl
  have m0 := PySem.W.mg_of X G a0
  have F1 : FunD K "fraction_of" "fraction_of" (defArgs sFo) (defBody sFo) (defScope sFo) [.int 1] [] f1 _ := ⟨⟨oc1, od1, .ref T1, kV1, dc1, pm1, an1, cd1, ct1, sl1, rfl, l1, c1, .inr ⟨by decide, T1, _, [.int 1 tT1], nT1, rfl, t1, rfl, .cons ⟨_, rfl⟩ .nil⟩, .inl rfl⟩, k1⟩
  obtain ⟨ds1, vd1, b1⟩ := F1.binds1 (ps := ["top", "bottom"]) 2 1 (by decide) rfl fun T kV doc pm an cdv ct us its hl hi => match us, its, hl, hi with | [_, _], [_], _, _ => ⟨_, rfl, rfl⟩
  obtain ⟨es1, ve1, d1⟩ := F1.binds1 (ps := ["top", "bottom"]) 1 0 (by decide) rfl fun T kV doc pm an cdv ct us its hl hi => match us, its, hl, hi with | [_], [_], _, _ => ⟨_, rfl, rfl⟩
  have m1 := PySem.W.mg_of X G a1
  have F2 := fun_mk (st := sAre) l2 c2 k2
  have b2 := F2.binds (ps := ["a", "b"]) fun _ _ _ _ _ _ us hl => match us, hl with | [_, _], _ => rfl
  have m2 := PySem.W.mg_of X G a2
  have F3 := fun_mk (st := sPlus) l3 c3 k3
  have b3 := F3.binds (ps := ["a", "b"]) fun _ _ _ _ _ _ us hl => match us, hl with | [_, _], _ => rfl
  have m3 := PySem.W.mg_of X G a3
  have F4 := fun_mk (st := sMinus) l4 c4 k4
  have b4 := F4.binds (ps := ["a", "b"]) fun _ _ _ _ _ _ us hl => match us, hl with | [_, _], _ => rfl
  have m4 := PySem.W.mg_of X G a4
  have F5 := fun_mk (st := sTimes) l5 c5 k5
  have b5 := F5.binds (ps := ["a", "b"]) fun _ _ _ _ _ _ us hl => match us, hl with | [_, _], _ => rfl
  have m5 := PySem.W.mg_of X G a5
  have F6 := fun_mk (st := sOver) l6 c6 k6
  have b6 := F6.binds (ps := ["a", "b"]) fun _ _ _ _ _ _ us hl => match us, hl with | [_, _], _ => rfl
  have m6 := PySem.W.mg_of X G a6
  have F7 := fun_mk (st := sLess) l7 c7 k7
  have b7 := F7.binds (ps := ["a", "b"]) fun _ _ _ _ _ _ us hl => match us, hl with | [_, _], _ => rfl
  have m7 := PySem.W.mg_of X G a7
  have F8 := fun_mk (st := sFresh) l8 c8 k8
  have b8 := F8.binds (ps := ["_law_script"]) fun _ _ _ _ _ _ us hl => match us, hl with | [_], _ => rfl
  have m8 := PySem.W.mg_of X G a8
  have F9 := fun_mk (st := sMixed) l9 c9 k9
  have b9 := F9.binds (ps := ["_law_seed"]) fun _ _ _ _ _ _ us hl => match us, hl with | [_], _ => rfl
  have m9 := PySem.W.mg_of X G a9
  have F10 := fun_mk (st := sFill) l10 c10 k10
  have b10 := F10.binds (ps := ["_law_state"]) fun _ _ _ _ _ _ us hl => match us, hl with | [_], _ => rfl
  have m10 := PySem.W.mg_of X G a10
  have F11 := fun_mk (st := sTake) l11 c11 k11
  have b11 := F11.binds (ps := ["_law_state", "_law_many"]) fun _ _ _ _ _ _ us hl => match us, hl with | [_, _], _ => rfl
  have m11 := PySem.W.mg_of X G a11
  have F12 := fun_mk (st := sWhole) l12 c12 k12
  have b12 := F12.binds (ps := ["_law_thing"]) fun _ _ _ _ _ _ us hl => match us, hl with | [_], _ => rfl
  have m12 := PySem.W.mg_of X G a12
  have F13 := fun_mk (st := sSh) l13 c13 k13
  have b13 := F13.binds (ps := ["_law_one", "_law_other"]) fun _ _ _ _ _ _ us hl => match us, hl with | [_, _], _ => rfl
  have m13 := PySem.W.mg_of X G a13
  have F14 := fun_mk (st := sFrac) l14 c14 k14
  have b14 := F14.binds (ps := ["_law_top", "_law_bottom"]) fun _ _ _ _ _ _ us hl => match us, hl with | [_, _], _ => rfl
  have m14 := PySem.W.mg_of X G a14
  have F15 := fun_mk (st := sTurned) l15 c15 k15
  have b15 := F15.binds (ps := ["_law_a"]) fun _ _ _ _ _ _ us hl => match us, hl with | [_], _ => rfl
  have m15 := PySem.W.mg_of X G a15
  have F16 := fun_mk (st := sIsf) l16 c16 k16
  have b16 := F16.binds (ps := ["_law_thing"]) fun _ _ _ _ _ _ us hl => match us, hl with | [_], _ => rfl
  have m16 := PySem.W.mg_of X G a16
  have F17 := fun_mk (st := sNumber) l17 c17 k17
  have b17 := F17.binds (ps := ["_law_state"]) fun _ _ _ _ _ _ us hl => match us, hl with | [_], _ => rfl
  have m17 := PySem.W.mg_of X G a17
  have F18 := fun_mk (st := sTwo) l18 c18 k18
  have b18 := F18.binds (ps := ["_law_state"]) fun _ _ _ _ _ _ us hl => match us, hl with | [_], _ => rfl
  have m18 := PySem.W.mg_of X G a18
  have F19 := fun_mk (st := sIs) l19 c19 k19
  have b19 := F19.binds (ps := ["_law_found", "_law_top", "_law_bottom"]) fun _ _ _ _ _ _ us hl => match us, hl with | [_, _, _], _ => rfl
  have m19 := PySem.W.mg_of X G a19
  have F20 := fun_mk (st := sByN) l20 c20 k20
  have b20 := F20.binds (ps := ["_law_a"]) fun _ _ _ _ _ _ us hl => match us, hl with | [_], _ => rfl
  have m20 := PySem.W.mg_of X G a20
  have F21 := fun_mk (st := sLaw) l21 c21 k21
  have n_abs := PySem.W.mg_none_of X G z_abs
  have n_enumerate := PySem.W.mg_none_of X G z_enumerate
  have n_len := PySem.W.mg_none_of X G z_len
  have n_isinstance := PySem.W.mg_none_of X G z_isinstance
  have n_int := PySem.W.mg_none_of X G z_int
  have n_bool := PySem.W.mg_none_of X G z_bool
  have n_tuple := PySem.W.mg_none_of X G z_tuple
  have n_all := PySem.W.mg_none_of X G z_all
  have n_range := PySem.W.mg_none_of X G z_range
  have mg_C := PySem.W.mg_of X G g_C
  have T_C : ExT K mg "NoFraction" C := ⟨mg_C, x_C, k_C, b_C, t_C⟩
  have mg_S := PySem.W.mg_of X G g_S
  refine ⟨PySem.W.fnOf "law" "law" (defArgs sLaw) (defBody sLaw) (defScope sLaw) .none kV21 dc21 pm21 an21 cd21 ct21, fun s v => .of_eq rfl, fun base _ _ => ?_⟩
  have cd := Cl.mk0 (P := l.prog) (w := w) (base := base) (ok_cd (k := 0) F0 n_abs) m0 k0 b0
  cases vd1
  have fo := Cl.mk0 (P := l.prog) (w := w) (base := base) (ok_fo F1 T_C cd) m1 k1 b1
  have gSb := PySem.W.mg_of X G aSb
  have ar := Cl.mk0 (P := l.prog) (w := w) (base := base) (ok_are (k := 0) F2 gSb) m2 k2 b2
  have pl := Cl.mk0 (P := l.prog) (w := w) (base := base) (ok_plus F3 fo cd ar) m3 k3 b3
  have mn := Cl.mk0 (P := l.prog) (w := w) (base := base) (ok_minus F4 pl) m4 k4 b4
  have tm := Cl.mk0 (P := l.prog) (w := w) (base := base) (ok_times F5 fo cd ar) m5 k5 b5
  have ov := Cl.mk0 (P := l.prog) (w := w) (base := base) (ok_over F6 T_C tm) m6 k6 b6
  have le := Cl.mk0 (P := l.prog) (w := w) (base := base) (ok_less (k := 0) F7) m7 k7 b7
  have fs := Cl.mk0 (P := l.prog) (w := w) (base := base) (ok_fresh (k := 0) F8) m8 k8 b8
  have mx := Cl.mk0 (P := l.prog) (w := w) (base := base) (ok_mixed (k := 0) F9 n_enumerate) m9 k9 b9
  have fl := Cl.mk0 (P := l.prog) (w := w) (base := base) (ok_fill F10 n_len mx) m10 k10 b10
  have tk := Cl.mk0 (P := l.prog) (w := w) (base := base) (ok_take F11 fl) m11 k11 b11
  have wh := Cl.mk0 (P := l.prog) (w := w) (base := base) (ok_whole (k := 0) F12 n_isinstance n_int n_bool) m12 k12 b12
  have sh := Cl.mk0 (P := l.prog) (w := w) (base := base) (ok_sh (k := 0) F13 n_abs) m13 k13 b13
  have fc := Cl.mk0 (P := l.prog) (w := w) (base := base) (ok_frac F14 sh) m14 k14 b14
  have tu := Cl.mk0 (P := l.prog) (w := w) (base := base) (ok_turned (k := 0) F15) m15 k15 b15
  have isf := Cl.mk0 (P := l.prog) (w := w) (base := base) (ok_isf F16 n_isinstance n_tuple n_len n_all wh sh) m16 k16 b16
  have nm := Cl.mk0 (P := l.prog) (w := w) (base := base) (ok_number F17 tk fc) m17 k17 b17
  have tw := Cl.mk0 (P := l.prog) (w := w) (base := base) (ok_two F18 n_range tk fc nm tu) m18 k18 b18
  have is := Cl.mk0 (P := l.prog) (w := w) (base := base) (ok_is F19 isf) m19 k19 b19
  have bn := Cl.mk0 (P := l.prog) (w := w) (base := base) (ok_byn F20 T_C mg_S e_cs ⟨i_hg, i_hk, i_hs, i_hd, i_ha, i_hn, i_ht, i_hm⟩ n_isinstance ov) m20 k20 b20
  exact ok_law (SE := S) F21 n_range n_isinstance n_bool fs tw is pl mn tm ov le bn
end SS
open PySem PySem.W PyProof.Rows
set_option maxRecDepth 100000 in
set_option maxHeartbeats 0 in
theorem PySem.Challenge.cw_scopestore_k02_fractions_reckoned_holds : PySem.Challenge.rw_scopestore_k02_fractions_reckoned.Holds := by
  w_on; o_law; k_head; (case hw => w_witness2)
  k_fill
  refine L2.walk_of (l := PySem.Challenge.rw_scopestore_k02_fractions_reckoned) (n := 63) (k := 6) (x := "_law_script") (CX := fun _ => L2.CX0) (sp := fun w => SS.spLaw _) rfl (by decide) rfl ⟨rfl, by decide, by decide⟩ (fun w h Y => PySem.W.kIn_of Y) ?F (fun _ _ a ns hl _ hS => ⟨a, ns, rfl, hS, fun _ => rfl⟩) (fun _ _ _ _ _ h => h)
  case F =>
    intro w mg fa h KX G hmg
    refine' SS.all_mk KX G hmg ?a0 ?l0 ?c0 ?k0 ?a1 ?l1 ?t1 ?c1 ?k1 ?a2 ?l2 ?c2 ?k2 ?a3 ?l3 ?c3 ?k3 ?a4 ?l4 ?c4 ?k4 ?a5 ?l5 ?c5 ?k5 ?a6 ?l6 ?c6 ?k6 ?a7 ?l7 ?c7 ?k7 ?a8 ?l8 ?c8 ?k8 ?a9 ?l9 ?c9 ?k9 ?a10 ?l10 ?c10 ?k10 ?a11 ?l11 ?c11 ?k11 ?a12 ?l12 ?c12 ?k12 ?a13 ?l13 ?c13 ?k13 ?a14 ?l14 ?c14 ?k14 ?a15 ?l15 ?c15 ?k15 ?a16 ?l16 ?c16 ?k16 ?a17 ?l17 ?c17 ?k17 ?a18 ?l18 ?c18 ?k18 ?a19 ?l19 ?c19 ?k19 ?a20 ?l20 ?c20 ?k20 ?a21 ?l21 ?c21 ?k21 ?z_abs ?z_enumerate ?z_len ?z_isinstance ?z_int ?z_bool ?z_tuple ?z_all ?z_range ?g_C ?x_C ?k_C ?b_C ?t_C ?g_S ?aSb ?e_cs ?i_hg ?i_hk ?i_hs ?i_hd ?i_ha ?i_hn ?i_ht ?i_hm
    (case a0 => k_is)
    (case l0 => k_is)
    (case c0 => k_is)
    (case k0 => k_is)
    (case a1 => k_is)
    (case l1 => k_is)
    (case t1 => k_is)
    (case c1 => k_is)
    (case k1 => k_is)
    (case a2 => k_is)
    (case l2 => k_is)
    (case c2 => k_is)
    (case k2 => k_is)
    (case a3 => k_is)
    (case l3 => k_is)
    (case c3 => k_is)
    (case k3 => k_is)
    (case a4 => k_is)
    (case l4 => k_is)
    (case c4 => k_is)
    (case k4 => k_is)
    (case a5 => k_is)
    (case l5 => k_is)
    (case c5 => k_is)
    (case k5 => k_is)
    (case a6 => k_is)
    (case l6 => k_is)
    (case c6 => k_is)
    (case k6 => k_is)
    (case a7 => k_is)
    (case l7 => k_is)
    (case c7 => k_is)
    (case k7 => k_is)
    (case a8 => k_is)
    (case l8 => k_is)
    (case c8 => k_is)
    (case k8 => k_is)
    (case a9 => k_is)
    (case l9 => k_is)
    (case c9 => k_is)
    (case k9 => k_is)
    (case a10 => k_is)
    (case l10 => k_is)
    (case c10 => k_is)
    (case k10 => k_is)
    (case a11 => k_is)
    (case l11 => k_is)
    (case c11 => k_is)
    (case k11 => k_is)
    (case a12 => k_is)
    (case l12 => k_is)
    (case c12 => k_is)
    (case k12 => k_is)
    (case a13 => k_is)
    (case l13 => k_is)
    (case c13 => k_is)
    (case k13 => k_is)
    (case a14 => k_is)
    (case l14 => k_is)
    (case c14 => k_is)
    (case k14 => k_is)
    (case a15 => k_is)
    (case l15 => k_is)
    (case c15 => k_is)
    (case k15 => k_is)
    (case a16 => k_is)
    (case l16 => k_is)
    (case c16 => k_is)
    (case k16 => k_is)
    (case a17 => k_is)
    (case l17 => k_is)
    (case c17 => k_is)
    (case k17 => k_is)
    (case a18 => k_is)
    (case l18 => k_is)
    (case c18 => k_is)
    (case k18 => k_is)
    (case a19 => k_is)
    (case l19 => k_is)
    (case c19 => k_is)
    (case k19 => k_is)
    (case a20 => k_is)
    (case l20 => k_is)
    (case c20 => k_is)
    (case k20 => k_is)
    (case a21 => k_is)
    (case l21 => k_is)
    (case c21 => k_is)
    (case k21 => k_is)
    (case z_abs => k_is)
    (case z_enumerate => k_is)
    (case z_len => k_is)
    (case z_isinstance => k_is)
    (case z_int => k_is)
    (case z_bool => k_is)
    (case z_tuple => k_is)
    (case z_all => k_is)
    (case z_range => k_is)
    (case g_C => k_is)
    (case x_C => first | k_is | k_exc | rfl | decide +kernel)
    (case k_C => k_is)
    (case b_C => k_is)
    (case t_C => k_is)
    (case g_S => k_is)
    (case aSb => k_is)
    (case e_cs => first | k_is | k_exc | rfl | decide +kernel)
    (case i_hg => k_is)
    (case i_hk => k_is)
    (case i_hs => k_is)
    (case i_hd => k_is)
    (case i_ha => k_is)
    (case i_hn => k_is)
    (case i_ht => k_is)
    (case i_hm => k_is)

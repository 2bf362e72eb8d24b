import PyProof.Rows.All
import Wide.All
import OpenK.AllK
import Wide.FinOn
import KE.GoesEnum
import HandS.ForMost
import HandS.ForExc
import HandS.Wide
import HandS.IsInst
import HandS.ExcIs
import HandS.Defaults
import HandS.IsInst
import HandS.ExcIs
import HandS.Defaults
import HandS.DeepEq
import HandS.DictComp
import KE.KEqDict
import KE.KEqNest
import HandS.AnyAll
import HandS.Nested
import HandS.GenOver
import HandS.EndTab
import HandS.Finally
import HandS.Walk
import HandS.Conv
import HandS.ListItems
import PyProof.NeKinds
import HandS.Style
import HandS.More
import PyProof.Rows.StrMeet
import PyProof.Rows.StrRules
import PyProof.MinMaxWalk
import PySem.Challenge.RW_scopestore_k80_same_rows
set_option Elab.async false
set_option linter.all false
set_option maxRecDepth 100000
set_option exponentiation.threshold 10000
namespace SS
open PySem PySem.Spec PyProof.Rows L2
section
/-! ### enumerate over a tuple: one new pair a turn -/
def ItE (K : PySem.W.Frag) (a : Addr) : It where
  go := fun i H => ∃ (ys : List V) (y : V), SqT K H a ys ∧ ys[i]? = some y
  yld := fun i H v H' => ∃ T y, v = .ref T ∧ H T = none ∧ H' = upd H T (.tup [.int (i : Nat), y]) ∧ ∀ ys, SqT K H a ys → ys[i]? = some y
  stop := fun i H => ∃ ys : List V, SqT K H a ys ∧ ys.length = i
theorem turnE {P : Program} {w : World} {K : PySem.W.Frag} {es : List Expr} {kk : Nat} {tp : Pos} (a e q : Addr) :
    Turn P w K (.Tuple es kk tp) (ItE K a) [e, q] e (fun i h => (∃ old, IsEnum h e q ((i : Nat) : Int) old) ∧ h.IsTupleIter q a i ∧ e ≠ q ∧ a ≠ q ∧ e ≠ a) where
  mem := by simp
  obj := fun i h st b hb => by
    obtain ⟨⟨old, h1⟩, ⟨o, h2, _, h3⟩, _⟩ := st
    rcases (show b = e ∨ b = q by simpa using hb) with z | z
    · subst z
      exact ⟨_, h1, fun v w => nomatch w⟩
    · subst z
      exact ⟨o, h2, fun v w => by rw [h3] at w; cases w⟩
  keep := fun i h h' st k => by
    obtain ⟨⟨old, h1⟩, h2, h3⟩ := st
    exact ⟨⟨old, k e (by simp) _ h1⟩, h2.at (fun o z => k q (by simp) o z), h3⟩
  item := by
    intro X e1 e2 e3 calm i pins s σ H E I free st go
    subst e1 e2 e3
    obtain ⟨⟨old, h1⟩, h2, n1, n2, n3⟩ := st
    obtain ⟨ys, y, sq, gy⟩ := go
    obtain ⟨us, rl, at_, _⟩ := I.tuple sq
    obtain ⟨u, gu, ru⟩ := rl.get gy
    have lt : i < us.toArray.size := by
      have z := (List.getElem?_eq_some_iff.mp gu).1
      simpa using z
    have le : e < s.heap.objs.size := Heap.lt_size h1
    have lq : q < s.heap.objs.size := by
      obtain ⟨_, z, _⟩ := h2
      exact Heap.lt_size z
    refine wpAny_pyNext_enum_itemD (Draws.tuple (A := X.A.in1) (I.ok.hd calm) q a n2 us.toArray) h1
      ⟨h2, at_⟩ lt n1 (by simp [n1, n3]) fun u' h' tk pu ho st' hT hsz hk => ?_
    have eu : u' = u := by
      have z : us[i]? = some u' := by simpa using pu
      rw [gu] at z
      exact (Option.some.inj z).symm
    subst eu
    refine ⟨_, rfl, wpAny_letOwnedTupleGo_enum
      (s := { s with heap := h', toks := tk + 1 }) ho fun h2' he' sb => ?_⟩
    have T2 : h2'.get? s.heap.objs.size = some { cls := .type "tuple", data := .seq #[.int i tk, u'] } :=
      (sb.2 _ (Nat.ne_of_gt le)).trans hT
    have nw : ObjOk X.prog X.w (upd H s.heap.objs.size (.tup [.int (i : Nat), y])) h2' s.heap.objs.size (.tup [.int (i : Nat), y]) :=
      ⟨(by show 2 ≤ sizeLine; decide), [.int i tk, u'], .cons ⟨_, rfl⟩ (.cons ru .nil), ⟨_, T2, rfl, _, rfl⟩⟩
    have J : Inv X pins σ (upd H s.heap.objs.size (.tup [.int (i : Nat), y])) { s with heap := h2', toks := tk + 1 } :=
      I.turnedNew (ch := [e, q]) (fun b ob nb z => (sb.2 b (fun c => nb (by simp [c]))).trans (hk b ob (fun c => nb (by simp [c])) (fun c => nb (by simp [c])) z)) free (Nat.le_refl _) nw
    refine ⟨.ref s.heap.objs.size, _, J, rfl, ⟨_, y, rfl, I.hok.fresh (Nat.le_refl _), rfl, fun zs hz => by rw [I.tuple_inj hz sq]; exact gy⟩,
      ⟨⟨u', ?_⟩, st'.1.at (fun o z => (sb.2 q (Ne.symm n1)).trans z), n1, n2, n3⟩, fun b hb => ?_⟩
    · rw [show ((i + 1 : Nat) : Int) = (i : Int) + 1 by omega]
      exact he'
    · have lb : b < s.heap.objs.size := by
        rcases (show b = e ∨ b = q by simpa using hb) with z | z
        · rw [z]; exact le
        · rw [z]; exact lq
      rw [upd_ne (Nat.ne_of_lt lb)]
      exact (free b hb).1
  done := by
    intro X e1 e2 e3 calm i pins s σ H E I free st stp
    subst e1 e2 e3
    obtain ⟨⟨old, h1⟩, h2, n1, n2, n3⟩ := st
    obtain ⟨ys, sq, ly⟩ := stp
    obtain ⟨us, rl, at_, _⟩ := I.tuple sq
    obtain ⟨f0, f1, f2, f3, f4, f5⟩ := free q (by simp)
    have ll := rl.length
    have ei : us.toArray.size = i := by
      rw [List.size_toArray, ← ll]
      exact ly
    refine wpAny_pyNext_enum_endD (Draws.tuple (A := X.A.in1) (I.ok.hd calm) q a n2 us.toArray) h1 ⟨by rw [ei]; exact h2, at_⟩ fun h' ext => ?_
    exact ⟨rfl, I.turned (t' := s.toks) (fun b o hb z => ext b o hb z) f0 f1 f3 f4 f5⟩
  self := fun A i s Q E st h => by
    obtain ⟨⟨_, h1⟩, _⟩ := st
    exact wpAny_pyIter_enum h1 h

set_option maxHeartbeats 1000000 in
theorem meets_enumT (t : Addr) (items : Array Value) (n : Nat) (dct : Option Addr) (sl : Array (Option Value)) :
    Meets (Builtin.«enumerate.__new__» ⟨[.type "enumerate", .ref t], []⟩) (fun _ R s => s.heap.get? t = some { cls := .type "tuple", dict := dct, data := .seq items n, slots := sl } ∧
      R (.ok (.ret (.ref (s.heap.push { cls := .type "tuple_iterator", data := .fields #[.ref t, .int 0 0] }).objs.size)))
        { s with heap := (s.heap.push { cls := .type "tuple_iterator", data := .fields #[.ref t, .int 0 0] }).push { cls := .type "enumerate", data := .fields #[.none, .bool false, .ref s.heap.objs.size, rawInt 0, .none, .none] } }) :=
  .of_wp fun prog w A R s h => by
    obtain ⟨hp, g, d, tk, os⟩ := s
    obtain ⟨hl, h⟩ := h
    have hsub := sub_enumerate
    have hT : Heap.IsTuple (Shared.heap ⟨hp, g, d, tk, os⟩) t items := ⟨_, hl, rfl, n, rfl⟩
    wp_walk using AutoSeq1.wpAny_loadPart' hl
    refine wpAny_stack_any fun st => wpAny_pure ?_
    split
    · rename_i c _ _ _ _ _
      cases (c == Value.type "enumerate")
      · wp_walk using AutoSeq1.wpAny_loadPart' hl, wpAny_pyIter_tuple hT
        exact ⟨_, rfl, h⟩
      · wp_walk using AutoSeq1.wpAny_loadPart' hl, wpAny_pyIter_tuple hT
        exact ⟨_, rfl, h⟩
    · wp_walk using AutoSeq1.wpAny_loadPart' hl, wpAny_pyIter_tuple hT
      exact ⟨_, rfl, h⟩
theorem call_enumT {prog : Program} {w : World} {A : Around} {E : Value → Shared → Prop} {s : Shared} {t : Addr} {items : Array Value} {Q : Value → Shared → Prop} (hL : s.heap.IsTuple t items)
    (h : ∀ h', IsEnum h' (s.heap.objs.size + 1) s.heap.objs.size 0 .none → h'.IsTupleIter s.heap.objs.size t 0 →
      (∀ b o, s.heap.get? b = some o → h'.get? b = some o) → Q (.ref (s.heap.objs.size + 1)) { s with heap := h' }) :
    wpAny (model prog w) A (call (.type "enumerate") [.ref t]) Q E s := by
  obtain ⟨⟨c, dct, dt, sl⟩, hl, hc, n, hd⟩ := hL
  have hc' : c = .type "tuple" := hc
  have hd' : dt = .seq items n := hd
  subst hc' hd'
  refine callType_new F.called_enumerate (by decide) (F.typeCall_enumerate_1 _) (F.newCall_enumerate_1 _)
    (fun obj => F.args_object_init_2 obj _) F.entry_enumerate_new (meets_enumT t items n dct sl) ⟨hl, ?_⟩
  have z1 : (s.heap.push { cls := .type "tuple_iterator", data := .fields #[.ref t, .int 0 0] }).objs.size = s.heap.objs.size + 1 := Heap.size_push ..
  show _ ∧ _
  rw [z1]
  have en : IsEnum ((s.heap.push { cls := .type "tuple_iterator", data := .fields #[.ref t, .int 0 0] }).push
      { cls := .type "enumerate", data := .fields #[.none, .bool false, .ref s.heap.objs.size, rawInt 0, .none, .none] }) (s.heap.objs.size + 1) s.heap.objs.size 0 .none := by
    have z := Heap.get?_push_size (s.heap.push { cls := .type "tuple_iterator", data := .fields #[.ref t, .int 0 0] })
      (o := { cls := .type "enumerate", data := .fields #[.none, .bool false, .ref s.heap.objs.size, rawInt 0, .none, .none] }) rfl
    rw [z1] at z
    exact z
  exact ⟨⟨_, en, rfl⟩, h _ en ⟨_, Heap.get?_push_of_some _ (Heap.get?_push_size _ rfl), rfl, rfl⟩
    fun b o z => Heap.get?_push_of_some _ (Heap.get?_push_of_some _ z)⟩
def iEnT (K : PySem.W.Frag) (ta : TA) : TI := fun σ H R => ta σ H fun vs H1 => ∃ a ys, vs = [.ref a] ∧ SqT K H1 a ys ∧ R (ItE K a) H1
theorem pi_enT {X : Cx} {e : Expr} {ta : TA} {p pos tpos : Pos} {es : List Expr} {kk : Nat} (hg : Gl X "enumerate") (hm : X.mg "enumerate" = none) (ha : PA X [e] ta) (hs : starEach [e] X.env = [(false, eval e X.env)] := by rfl) :
    PI X (.Tuple es kk tpos) (.Call (.Name "enumerate" p) [e] [] pos) (iEnT X.K ta) := by
  refine ⟨fun pins s σ H R I h => ?_⟩
  refine Call_ (ld_blt I hg hm boot_enumerate (PyProof.Rows.callWith_type1
    (thn (ha.run pos pins s σ H _ I h) fun us s1 ⟨vs, H1, I1, r1, q1⟩ => ?_) hs rfl))
  obtain ⟨a, ys, ex, sq, q⟩ := q1
  subst ex
  cases r1 with
  | cons r rr =>
    cases rr
    cases r
    obtain ⟨us, rl, at_, _⟩ := I1.tuple sq
    have la : a < s1.heap.objs.size := by
      obtain ⟨_, z, _⟩ := at_
      exact Heap.lt_size z
    refine call_enumT (items := us.toArray) at_ fun h' he hit hk => wpAny_pyIter_enum he ?_
    have I2 : Inv X pins σ H1 { s1 with heap := h' } := I1.kept (t' := s1.toks) hk
    refine ⟨s1.heap.objs.size + 1, [s1.heap.objs.size + 1, s1.heap.objs.size], _, _, H1, rfl, I2,
      turnE a (s1.heap.objs.size + 1) s1.heap.objs.size, ⟨⟨.none, he⟩, hit, Nat.succ_ne_self _, Nat.ne_of_lt la, Nat.ne_of_gt (Nat.lt_succ_of_lt la)⟩, fun b hb => ?_, q⟩
    have lb : s1.heap.objs.size ≤ b := by
      rcases (show b = s1.heap.objs.size + 1 ∨ b = s1.heap.objs.size by simpa using hb) with z | z
      · rw [z]; exact Nat.le_add_right _ _
      · rw [z]; exact Nat.le_refl _
    exact I1.fpOk lb (I1.hok.fresh lb)
/-! ### // by a great divisor of either sign -/
def CDivG (_ j : Int) : Prop := j ≠ 0 ∧ j.natAbs.log2 < 9000
theorem op_fdivG {X : Cx} : OpR X (binaryOp .FloorDiv) (rI CDivG fun i j => .int (i.fdiv j)) :=
  opI fun i j _ _ _ _ _ hc q => floordiv_int hc.1 q (.inl (PyProof.noPylong_of_log2 hc.2))
end
end SS
namespace SS
def sgd (t b : Int) : Int := if b < 0 then -((Int.gcd t b : Nat) : Int) else ((Int.gcd t b : Nat) : Int)
def fr1 (t b : Int) : Int := t.fdiv (sgd t b)
def fr2 (t b : Int) : Int := b.fdiv (sgd t b)
theorem gcdP {t b : Int} (h : b ≠ 0) : 0 < Int.gcd t b := Nat.pos_of_ne_zero fun e => h (Int.gcd_eq_zero_iff.mp e).2
theorem sgd_abs (t b : Int) : (sgd t b).natAbs = Int.gcd t b := by
  unfold sgd
  split <;> omega
theorem sgd_ne {t b : Int} (h : b ≠ 0) : sgd t b ≠ 0 := fun e => by
  have := gcdP (t := t) h
  rw [← sgd_abs, e] at this
  exact absurd this (by decide)
theorem sgd_dvd1 (t b : Int) : sgd t b ∣ t := by
  rw [← Int.natAbs_dvd_natAbs, sgd_abs, ← Int.natCast_dvd_natCast, Int.dvd_natAbs]
  exact Int.gcd_dvd_left ..
theorem sgd_dvd2 (t b : Int) : sgd t b ∣ b := by
  rw [← Int.natAbs_dvd_natAbs, sgd_abs, ← Int.natCast_dvd_natCast, Int.dvd_natAbs]
  exact Int.gcd_dvd_right ..
theorem fr1_eq {t b : Int} (h : b ≠ 0) : fr1 t b * sgd t b = t := by
  obtain ⟨k, e⟩ := sgd_dvd1 t b
  have z : fr1 t b = k := by
    unfold fr1
    have q : t.fdiv (sgd t b) = (sgd t b * k).fdiv (sgd t b) := congrArg (·.fdiv (sgd t b)) e
    rw [q]
    exact Int.mul_fdiv_cancel_left _ (sgd_ne h)
  rw [z, Int.mul_comm]
  exact e.symm
theorem fr2_eq {t b : Int} (h : b ≠ 0) : fr2 t b * sgd t b = b := by
  obtain ⟨k, e⟩ := sgd_dvd2 t b
  have z : fr2 t b = k := by
    unfold fr2
    have q : b.fdiv (sgd t b) = (sgd t b * k).fdiv (sgd t b) := congrArg (·.fdiv (sgd t b)) e
    rw [q]
    exact Int.mul_fdiv_cancel_left _ (sgd_ne h)
  rw [z, Int.mul_comm]
  exact e.symm
theorem fr2_pos {t b : Int} (h : b ≠ 0) : 0 < fr2 t b := by
  have e := fr2_eq (t := t) h
  have g := gcdP (t := t) h
  unfold sgd at e
  by_cases c : b < 0
  · rw [if_pos c] at e
    refine Int.lt_of_not_ge fun z => ?_
    have : 0 ≤ fr2 t b * -((Int.gcd t b : Nat) : Int) := Int.mul_nonneg_of_nonpos_of_nonpos z (by omega)
    omega
  · rw [if_neg c] at e
    refine Int.lt_of_not_ge fun z => ?_
    have : fr2 t b * ((Int.gcd t b : Nat) : Int) ≤ 0 := Int.mul_nonpos_of_nonpos_of_nonneg z (by omega)
    omega
theorem fr_gcd {t b : Int} (h : b ≠ 0) : Int.gcd (fr1 t b) (fr2 t b) = 1 := by
  have g := gcdP (t := t) h
  have e : Int.gcd (fr1 t b * sgd t b) (fr2 t b * sgd t b) = Int.gcd t b := by rw [fr1_eq h, fr2_eq h]
  rw [Int.gcd_mul_right, sgd_abs] at e
  exact Nat.eq_of_mul_eq_mul_right g (by rw [e, Nat.one_mul])
theorem fr_cross {t b : Int} (h : b ≠ 0) : fr1 t b * b = t * fr2 t b := by
  have e1 := fr1_eq (t := t) h
  have e2 := fr2_eq (t := t) h
  calc fr1 t b * b = fr1 t b * (fr2 t b * sgd t b) := by rw [e2]
    _ = (fr1 t b * sgd t b) * fr2 t b := by rw [Int.mul_comm (fr2 t b), Int.mul_assoc]
    _ = t * fr2 t b := by rw [e1]
theorem fr1_le {t b : Int} (h : b ≠ 0) : (fr1 t b).natAbs ≤ t.natAbs := by
  have e := congrArg Int.natAbs (fr1_eq (t := t) h)
  rw [Int.natAbs_mul, sgd_abs] at e
  rw [← e]
  exact Nat.le_mul_of_pos_right _ (gcdP h)
theorem fr2_le {t b : Int} (h : b ≠ 0) : (fr2 t b).natAbs ≤ b.natAbs := by
  have e := congrArg Int.natAbs (fr2_eq (t := t) h)
  rw [Int.natAbs_mul, sgd_abs] at e
  rw [← e]
  exact Nat.le_mul_of_pos_right _ (gcdP h)
/-- one turn of the walk down -/
theorem gcd_turn {a b : Int} (ha : 0 ≤ a) (hb : 0 < b) : Int.gcd b (a % b) = Int.gcd a b := by
  obtain ⟨m, rfl⟩ := Int.eq_ofNat_of_zero_le ha
  obtain ⟨n, rfl⟩ := Int.eq_ofNat_of_zero_le (Int.le_of_lt hb)
  rw [← Int.natCast_emod]
  show Nat.gcd n (m % n) = Nat.gcd m n
  rw [Nat.gcd_comm n, ← Nat.gcd_rec, Nat.gcd_comm]
theorem gcd_end (a : Int) (h : 0 ≤ a) : ((Int.gcd a 0 : Nat) : Int) = a := by
  rw [Int.gcd_zero_right]
  omega
theorem gcd_abs (a b : Int) : Int.gcd (if a < 0 then -a else a) (if b < 0 then -b else b) = Int.gcd a b := by
  have n : ∀ x : Int, (if x < 0 then -x else x).natAbs = x.natAbs := fun x => by split <;> omega
  unfold Int.gcd
  rw [n, n]
end SS
namespace SS
theorem dvdCop {a b c : Int} (z : a ∣ b * c) (h : Int.gcd a b = 1) : a ∣ c := by
  rw [← Int.natAbs_dvd_natAbs] at z ⊢
  rw [Int.natAbs_mul] at z
  exact Nat.Coprime.dvd_of_dvd_mul_left h z
/-- in lowest terms there is one pair -/
theorem lowUniq {x y x' y' : Int} (hy : 0 < y) (hy' : 0 < y') (g : Int.gcd x y = 1) (g' : Int.gcd x' y' = 1) (e : x * y' = x' * y) : x = x' ∧ y = y' := by
  have d1 : y ∣ y' := dvdCop (b := x) ⟨x', by rw [e, Int.mul_comm]⟩ (by rw [Int.gcd_comm]; exact g)
  have d2 : y' ∣ y := dvdCop (b := x') ⟨x, by rw [← e, Int.mul_comm]⟩ (by rw [Int.gcd_comm]; exact g')
  have e2 : y = y' := Int.dvd_antisymm (Int.le_of_lt hy) (Int.le_of_lt hy') d1 d2
  refine ⟨?_, e2⟩
  rw [← e2] at e
  exact Int.eq_of_mul_eq_mul_right (Int.ne_of_gt hy) e
theorem frIs {x y t b : Int} (hb : b ≠ 0) (hy : 0 < y) (g : Int.gcd x y = 1) (e : x * b = t * y) : x = fr1 t b ∧ y = fr2 t b := by
  refine lowUniq hy (fr2_pos hb) g (fr_gcd hb) ?_
  have c := fr_cross (t := t) hb
  refine Int.eq_of_mul_eq_mul_right hb ?_
  calc x * fr2 t b * b = x * b * fr2 t b := by rw [Int.mul_assoc, Int.mul_comm (fr2 t b), ← Int.mul_assoc]
    _ = t * y * fr2 t b := by rw [e]
    _ = t * fr2 t b * y := by rw [Int.mul_assoc, Int.mul_comm y, ← Int.mul_assoc]
    _ = fr1 t b * b * y := by rw [c]
    _ = fr1 t b * y * b := by rw [Int.mul_assoc, Int.mul_comm b, ← Int.mul_assoc]
theorem gcdDvdMul {g k : Int} (h : g ≠ 0) : (g * k).fdiv g = k := Int.mul_fdiv_cancel_left _ h
theorem copDvd {a b c : Int} (h : Int.gcd a b = 1) (z : c ∣ b) : Int.gcd a c = 1 := by
  obtain ⟨k, rfl⟩ := z
  have q : Int.gcd a c ∣ Int.gcd a (c * k) := Int.gcd_dvd_gcd_mul_right_right a c k
  rw [h] at q
  exact Nat.dvd_one.mp q
theorem copDvdL {a b c : Int} (h : Int.gcd a b = 1) (z : c ∣ a) : Int.gcd c b = 1 := by
  rw [Int.gcd_comm] at h ⊢
  exact copDvd h z
theorem copMul {a b c : Int} (h1 : Int.gcd a b = 1) (h2 : Int.gcd a c = 1) : Int.gcd a (b * c) = 1 := by
  rw [Int.gcd_mul_right_right_of_gcd_eq_one h1]
  exact h2
theorem copMulL {a b c : Int} (h1 : Int.gcd a c = 1) (h2 : Int.gcd b c = 1) : Int.gcd (a * b) c = 1 := by
  rw [Int.gcd_mul_right_left_of_gcd_eq_one h1]
  exact h2
/-- both divided by their greatest divisor -/
theorem gcdParts {a b : Int} (h : b ≠ 0) : ∃ u v : Int, a = ((Int.gcd a b : Nat) : Int) * u ∧ b = ((Int.gcd a b : Nat) : Int) * v ∧ Int.gcd u v = 1 := by
  obtain ⟨u, hu⟩ := Int.gcd_dvd_left a b
  obtain ⟨v, hv⟩ := Int.gcd_dvd_right a b
  refine ⟨u, v, hu, hv, ?_⟩
  have g := gcdP (t := a) h
  have e : Int.gcd (((Int.gcd a b : Nat) : Int) * u) (((Int.gcd a b : Nat) : Int) * v) = Int.gcd a b := by rw [← hu, ← hv]
  rw [Int.gcd_mul_left] at e
  have e2 : Int.gcd a b * Int.gcd u v = Int.gcd a b * 1 := by
    rw [Nat.mul_one]
    exact e
  exact Nat.eq_of_mul_eq_mul_left g e2
theorem pos_ne' {a b : Int} (h1 : 0 < a) (h2 : 0 < b) : a * b ≠ 0 := Int.ne_of_gt (Int.mul_pos h1 h2)
theorem posMul {a b : Int} (ha : 0 < a) (h : 0 < a * b) : 0 < b := by
  refine Int.lt_of_not_ge fun z => ?_
  have : a * b ≤ 0 := Int.mul_nonpos_of_nonneg_of_nonpos (Int.le_of_lt ha) z
  omega
/-- the sum of two fractions by the divisor of their bottoms -/
def plD (d1 d2 : Int) : Int := ((Int.gcd d1 d2 : Nat) : Int)
def plT (n1 d1 n2 d2 : Int) : Int := n1 * d2.fdiv (plD d1 d2) + n2 * d1.fdiv (plD d1 d2)
def plG (n1 d1 n2 d2 : Int) : Int := ((Int.gcd (plT n1 d1 n2 d2) (plD d1 d2) : Nat) : Int)
theorem plus_long {n1 d1 n2 d2 : Int} (h1 : 0 < d1) (h2 : 0 < d2) (g1 : Int.gcd n1 d1 = 1) (g2 : Int.gcd n2 d2 = 1) :
    (plT n1 d1 n2 d2).fdiv (plG n1 d1 n2 d2) = fr1 (n1 * d2 + n2 * d1) (d1 * d2) ∧ d1.fdiv (plD d1 d2) * d2.fdiv (plG n1 d1 n2 d2) = fr2 (n1 * d2 + n2 * d1) (d1 * d2) := by
  obtain ⟨u, v, hu, hv, uv⟩ := gcdParts (a := d1) (b := d2) (Int.ne_of_gt h2)
  have s0 : 0 < plD d1 d2 := by
    have := gcdP (t := d1) (Int.ne_of_gt h2)
    unfold plD
    omega
  have hu : d1 = plD d1 d2 * u := hu
  have hv : d2 = plD d1 d2 * v := hv
  have e1 : d1.fdiv (plD d1 d2) = u := by
    have q : d1.fdiv (plD d1 d2) = (plD d1 d2 * u).fdiv (plD d1 d2) := congrArg (·.fdiv (plD d1 d2)) hu
    rw [q]
    exact gcdDvdMul (Int.ne_of_gt s0)
  have e2 : d2.fdiv (plD d1 d2) = v := by
    have q : d2.fdiv (plD d1 d2) = (plD d1 d2 * v).fdiv (plD d1 d2) := congrArg (·.fdiv (plD d1 d2)) hv
    rw [q]
    exact gcdDvdMul (Int.ne_of_gt s0)
  have eT : plT n1 d1 n2 d2 = n1 * v + n2 * u := by
    unfold plT
    rw [e1, e2]
  have eG : plG n1 d1 n2 d2 = ((Int.gcd (plT n1 d1 n2 d2) (plD d1 d2) : Nat) : Int) := rfl
  rw [e1]
  generalize plG n1 d1 n2 d2 = G at *
  generalize plT n1 d1 n2 d2 = T at *
  generalize plD d1 d2 = s at *
  have up : 0 < u := posMul s0 (by rw [← hu]; exact h1)
  have vp : 0 < v := posMul s0 (by rw [← hv]; exact h2)
  obtain ⟨t, s', ht, hs, ts⟩ := gcdParts (a := T) (b := s) (Int.ne_of_gt s0)
  rw [← eG] at ht hs
  have G0 : 0 < G := by
    have := gcdP (t := T) (Int.ne_of_gt s0)
    rw [eG]
    omega
  have sp : 0 < s' := posMul G0 (by rw [← hs]; exact s0)
  have f1 : T.fdiv G = t := by
    rw [ht]
    exact gcdDvdMul (Int.ne_of_gt G0)
  have f2 : d2.fdiv G = s' * v := by
    rw [hv, hs, Int.mul_assoc]
    exact gcdDvdMul (Int.ne_of_gt G0)
  rw [f1, f2]
  have tT : t ∣ T := ⟨G, by rw [ht, Int.mul_comm]⟩
  have c1 : Int.gcd t u = 1 := by
    refine copDvdL (a := T) ?_ tT
    rw [eT, Int.add_comm, Int.gcd_mul_right_add_left]
    refine copMulL ?_ (by rw [Int.gcd_comm]; exact uv)
    exact copDvd g1 ⟨s, by rw [hu, Int.mul_comm]⟩
  have c2 : Int.gcd t v = 1 := by
    refine copDvdL (a := T) ?_ tT
    rw [eT, Int.gcd_mul_right_add_left]
    refine copMulL ?_ uv
    exact copDvd g2 ⟨s, by rw [hv, Int.mul_comm]⟩
  refine frIs (pos_ne' h1 h2) (Int.mul_pos up (Int.mul_pos sp vp)) (copMul c1 (copMul ts c2)) ?_
  have E : n1 * d2 + n2 * d1 = s * (G * t) := by
    rw [← ht, eT, hu, hv, Int.mul_add]
    congr 1 <;> rw [Int.mul_left_comm]
  rw [E, hu, hv]
  have hs2 := hs
  generalize G = G at *
  grind
/-- the product of two fractions, one's top and the other's bottom made less -/
theorem times_long {n1 d1 n2 d2 : Int} (h1 : 0 < d1) (h2 : 0 < d2) (g1 : Int.gcd n1 d1 = 1) (g2 : Int.gcd n2 d2 = 1) :
    n1.fdiv ((Int.gcd n1 d2 : Nat) : Int) * n2.fdiv ((Int.gcd n2 d1 : Nat) : Int) = fr1 (n1 * n2) (d1 * d2) ∧ d1.fdiv ((Int.gcd n2 d1 : Nat) : Int) * d2.fdiv ((Int.gcd n1 d2 : Nat) : Int) = fr2 (n1 * n2) (d1 * d2) := by
  obtain ⟨u, v, hu, hv, uv⟩ := gcdParts (a := n1) (b := d2) (Int.ne_of_gt h2)
  obtain ⟨x, y, hx, hy, xy⟩ := gcdParts (a := n2) (b := d1) (Int.ne_of_gt h1)
  have a0 : 0 < ((Int.gcd n1 d2 : Nat) : Int) := by
    have := gcdP (t := n1) (Int.ne_of_gt h2)
    omega
  have b0 : 0 < ((Int.gcd n2 d1 : Nat) : Int) := by
    have := gcdP (t := n2) (Int.ne_of_gt h1)
    omega
  generalize ((Int.gcd n1 d2 : Nat) : Int) = a at *
  generalize ((Int.gcd n2 d1 : Nat) : Int) = b at *
  subst hu hv hx hy
  rw [gcdDvdMul (Int.ne_of_gt a0), gcdDvdMul (Int.ne_of_gt a0), gcdDvdMul (Int.ne_of_gt b0), gcdDvdMul (Int.ne_of_gt b0)]
  have vp : 0 < v := posMul a0 h2
  have yp : 0 < y := posMul b0 h1
  have uy : Int.gcd u y = 1 := copDvdL (copDvd g1 ⟨b, by rw [Int.mul_comm]⟩) ⟨a, by rw [Int.mul_comm]⟩
  have xv : Int.gcd x v = 1 := copDvdL (copDvd g2 ⟨a, by rw [Int.mul_comm]⟩) ⟨b, by rw [Int.mul_comm]⟩
  refine frIs (pos_ne' h1 h2) (Int.mul_pos yp vp) (copMul (copMulL uy xy) (copMulL uv xv)) ?_
  grind
end SS
namespace SS
open PySem PySem.Spec PyProof.Rows L2
/-! ### heaps -/
/-- all but st is as it was -/
def But (st : Addr) (H H' : Hp) : Prop := ∀ b o, b ≠ st → H b = some o → H' b = some o
theorem But.refl (st : Addr) (H : Hp) : But st H H := fun _ _ _ h => h
theorem But.trans {st : Addr} {H H1 H2 : Hp} (x : But st H H1) (y : But st H1 H2) : But st H H2 := fun b o n h => y b o n (x b o n h)
theorem Same.but {st : Addr} {H H' : Hp} (x : Same H H') : But st H H' := fun b o _ h => x b o h
theorem same_new {H : Hp} {p : Addr} {o : HO} (h : H p = none) : Same H (upd H p o) := fun b x e => by
  rw [upd_ne (ne_of_none e h)]
  exact e
theorem But.upd {st : Addr} {H : Hp} {o : HO} : But st H (upd H st o) := fun b x n e => by
  rw [upd_ne n]
  exact e
/-- the law's own state: its cells, where it stands, what is left, whether that is mixed -/
def StA (st c : Addr) (H : Hp) : Prop := ∃ (i n : Int) (f : Bool) (xs : List Int),
  H st = some (.lst [.ref c, .int i, .int n, .bl f]) ∧ H c = some (.lst (xs.map V.int)) ∧ xs.length ≤ 63 ∧ c ≠ st
theorem StA.same {st c : Addr} {H H' : Hp} (s : StA st c H) (x : Same H H') : StA st c H' := by
  obtain ⟨i, n, f, xs, h1, h2, h3, h4⟩ := s
  exact ⟨i, n, f, xs, x _ _ h1, x _ _ h2, h3, h4⟩
theorem StA.tup {st c p : Addr} {H : Hp} {xs : List V} (s : StA st c H) (h : H p = some (.tup xs)) : p ≠ st := fun e => by
  obtain ⟨i, n, f, ys, h1, _⟩ := s
  rw [e, h1] at h
  cases h
theorem StA.fresh {st c p : Addr} {H : Hp} (s : StA st c H) (h : H p = none) : p ≠ st := fun e => by
  obtain ⟨i, n, f, ys, h1, _⟩ := s
  rw [e, h1] at h
  cases h
theorem But.tup {st c p : Addr} {H H' : Hp} {xs : List V} (b : But st H H') (s : StA st c H) (h : H p = some (.tup xs)) : H' p = some (.tup xs) := b _ _ (s.tup h) h
/-- another object, made since, changes: the state stands -/
theorem StA.other {st c l : Addr} {H : Hp} {o : HO} (s : StA st c H) (h1 : l ≠ st) (h2 : l ≠ c) : StA st c (upd H l o) := by
  obtain ⟨i, n, f, xs, a1, a2, a3, a4⟩ := s
  exact ⟨i, n, f, xs, by rw [upd_ne h1.symm]; exact a1, by rw [upd_ne h2.symm]; exact a2, a3, a4⟩
theorem StA.fresh2 {st c p : Addr} {H : Hp} (s : StA st c H) (h : H p = none) : p ≠ c := fun e => by
  obtain ⟨i, n, f, ys, _, h1, _⟩ := s
  rw [e, h1] at h
  cases h
/-- a tuple (n, d) with d above 0 and few bits -/
def Fra (k : Nat) (H : Hp) (p : Addr) : Prop := ∃ n d : Int, H p = some (.tup [.int n, .int d]) ∧ 0 < d ∧ n.natAbs < 2 ^ k ∧ d.natAbs < 2 ^ k
theorem Fra.same {k : Nat} {p : Addr} {H H' : Hp} (s : Fra k H p) (x : Same H H') : Fra k H' p := by
  obtain ⟨n, d, h1, h2⟩ := s
  exact ⟨n, d, x _ _ h1, h2⟩
theorem Fra.but {k : Nat} {st c p : Addr} {H H' : Hp} (s : Fra k H p) (x : But st H H') (y : StA st c H) : Fra k H' p := by
  obtain ⟨n, d, h1, h2⟩ := s
  exact ⟨n, d, x.tup y h1, h2⟩
theorem Fra.mono {k j : Nat} {p : Addr} {H : Hp} (s : Fra k H p) (h : k ≤ j) : Fra j H p := by
  obtain ⟨n, d, h1, h2, h3, h4⟩ := s
  have z : 2 ^ k ≤ 2 ^ j := Nat.pow_le_pow_right (by decide) h
  exact ⟨n, d, h1, h2, Nat.lt_of_lt_of_le h3 z, Nat.lt_of_lt_of_le h4 z⟩
/-! ### a def of the module, as its callers know it -/
structure Cl (P : Program) (w : World) (K : PySem.W.Frag) (mg : Str → Option Value) (base : Heap) (CX : CXT) (k : Nat) (x : Str) (sp : Sp) (dvs : List V) : Prop where
  ex : ∃ (f : Addr) (fd : FuncData) (ps : List Str) (ds : List Value), FnOk P w K mg base CX k f fd ps sp ∧ mg x = some (.ref f) ∧ PySem.W.keepIn K (.ref f) = true ∧ Binds K fd ps ds ∧ Vals dvs ds
section
variable {X : Cx} {k j : Nat} {x : Str} {sp : Sp} {dvs : List V} {e : Expr} {es : List Expr} {t : TA} {p pos : Pos}
theorem pc0 (c : Cl X.prog X.w X.K X.mg X.base CX0 k x sp dvs) (hr : Room j X.A) (hk : k ≤ j) (ha : PA X (e :: es) t) (hg : Gl X x := by rfl)
    (hdb : (x == ("__debug__" : Str)) = false := by decide) (he : starEach (e :: es) X.env = (false, eval e X.env) :: starEach es X.env := by rfl) (hpl : (backTo pos (starEach es X.env)).any (·.1) = false := by rfl) :
    PE X (.Call (.Name x p) (e :: es) [] pos) (tCall sp dvs E0 t) := by
  obtain ⟨f, fd, ps, ds, F, gm, kp, b, d⟩ := c.ex
  exact pe_call F (hr.mono hk) hg gm kp b d pass0 ha hdb he hpl
theorem pcX (c : Cl X.prog X.w X.K X.mg X.base (L2.CX X.prog X.w) k x sp dvs) (hr : Room j X.A) (hk : k ≤ j) (ha : PA X (e :: es) t) (hg : Gl X x := by rfl)
    (hdb : (x == ("__debug__" : Str)) = false := by decide) (he : starEach (e :: es) X.env = (false, eval e X.env) :: starEach es X.env := by rfl) (hpl : (backTo pos (starEach es X.env)).any (·.1) = false := by rfl) :
    PE X (.Call (.Name x p) (e :: es) [] pos) (tCall sp dvs E0 t) := by
  obtain ⟨f, fd, ps, ds, F, gm, kp, b, d⟩ := c.ex
  exact pe_call F (hr.mono hk) hg gm kp b d passL ha hdb he hpl
/-- where what it raises is wished for: in a try, or let out of the def -/
theorem pcS {E : L2.St → XK} (c : Cl X.prog X.w X.K X.mg X.base (L2.CX X.prog X.w) k x sp []) (hr : Room j X.A) (hk : k ≤ j) (hx : ∀ σ, PassesAt (L2.CX X.prog X.w) X σ (E σ)) (ha : PA X (e :: es) t) (hg : Gl X x := by rfl)
    (hdb : (x == ("__debug__" : Str)) = false := by decide) (he : starEach (e :: es) X.env = (false, eval e X.env) :: starEach es X.env := by rfl) (hpl : (backTo pos (starEach es X.env)).any (·.1) = false := by rfl) :
    PE X (.Call (.Name x p) (e :: es) [] pos) (tCallS sp E t) := by
  obtain ⟨f, fd, ps, ds, F, gm, kp, b, d⟩ := c.ex
  cases d
  exact pe_callS F (hr.mono hk) hg gm kp b hx ha hdb he hpl
end
section
variable {P : Program} {w : World} {K : PySem.W.Frag} {mg : Str → Option Value} {base : Heap}
theorem Cl.mk0 {CX : CXT} {k : Nat} {x : Str} {sp : Sp} {f : Addr} {fd : FuncData} {ps : List Str} (F : FnOk P w K mg base CX k f fd ps sp) (g : mg x = some (.ref f)) (kp : PySem.W.keepIn K (.ref f) = true) (b : Binds K fd ps []) : Cl P w K mg base CX k x sp [] :=
  ⟨⟨f, fd, ps, [], F, g, kp, b, .nil⟩⟩
end
theorem small2 : 2 ≤ sizeLine := by decide
end SS
namespace SS
open PySem PySem.Spec PyProof.Rows L2
/-! ### dicts of fractions compared; tuples of such -/
/-- two tuples of the same two numbers -/
def VEq (H : Hp) (x y : V) : Prop := ∃ (a b : Addr) (n d : Int), x = .ref a ∧ y = .ref b ∧ H a = some (.tup [.int n, .int d]) ∧ H b = some (.tup [.int n, .int d])
def DEq (H : Hp) (x y : V) : Prop := ∃ (a b : Addr) (ks ls : List (Key × V)), x = .ref a ∧ y = .ref b ∧ H a = some (.dK ks) ∧ H b = some (.dK ls) ∧ ks.length = ls.length ∧ ∀ p ∈ ks, ∃ u, valV ls p.1 = some u ∧ VEq H p.2 u
section
variable {X : Cx} {pins : List (Addr × Obj)} {σ : L2.St} {H : Hp} {s : Shared}
theorem veq_run (I : Inv X pins σ H s) {A : Around} (hu : A.in1.units + 10 < cLine) {x y : V} {v u : Value} (h : VEq H x y) (rx : RelV x v) (ry : RelV y u) : SeqAt.EqAt A.in1 s v u true := by
  obtain ⟨a, b, n, d, rfl, rfl, h1, h2⟩ := h
  have D1 : Dp X.K H (.ref a) (.tuple [.int n, .int d]) := .tup (SqT.of h1) (.cons (.int _) (.cons (.int _) .nil))
  have D2 : Dp X.K H (.ref b) (.tuple [.int n, .int d]) := .tup (SqT.of h2) (.cons (.int _) (.cons (.int _) .nil))
  obtain ⟨as, r1⟩ := Dp.reads I _ _ v D1 rx
  obtain ⟨bs, r2⟩ := Dp.reads I _ _ u D2 ry
  have z := SeqAt.eqAt_reads _ _ A.in1 s v u as bs r1 r2 rfl rfl (Nat.lt_of_le_of_lt (Nat.add_le_add_left (Nat.le_trans (Nat.min_le_left _ _) (by show PyData.depth (.tuple [.int n, .int d]) ≤ 10; simp [PyData.depth, PyData.depthAll])) _) hu)
  rw [SeqAt.eqv_refl _ rfl] at z
  exact z
theorem hits_x (I : Inv X pins σ H s) {A : Around} (hu : A.in1.units + 10 < cLine) {ls : List (Key × V)} {vb : List (Key × Value)} (rb : KV ls vb) {ks : List (Key × V)} {va : List (Key × Value)}
    (ra : KV ks va) : (∀ p ∈ ks, ∃ u, valV ls p.1 = some u ∧ VEq H p.2 u) → PySem.W.KeqHits A.in1 s vb va true := by
  unfold KV at ra
  induction ra with
  | nil =>
    intro _
    exact .nil
  | @cons p q ps qs hd tl ih =>
    intro hp
    obtain ⟨e1, e2⟩ := hd
    obtain ⟨u, eu, fu⟩ := hp p List.mem_cons_self
    have ro : RelO (some u) (valueAt vb p.1) := by
      rw [← eu]
      exact rb.val p.1
    obtain ⟨y, hy, ry⟩ := ro.some_of
    obtain ⟨key, v⟩ := q
    have ek : p.1 = key := e1
    rw [ek] at hy
    exact PySem.W.KeqHits.hit (e := true) (b := true) hy (veq_run I hu fu e2 ry) (ih fun p' hm => hp p' (List.mem_cons_of_mem _ hm))
theorem KeqHits.toP {P : Program} {w : World} {A : Around} {kb : List (Key × Value)} : ∀ {ka : List (Key × Value)} {r : Bool}, PySem.W.KeqHits A s kb ka r → PySem.W.KeqHitsP P w A s kb ka r
  | _, _, .nil => .nil
  | _, _, .miss h => .miss h
  | _, _, .hit h1 h2 h3 => .hit h1 h2.eqP (KeqHits.toP h3)
/-- d != e of dicts that are alike -/
def rNeX : R2 := fun x y H Q => DEq H x y ∧ Q (.bl false) H
theorem op_neX (hu : X.A.units + 64 < cLine) : OpR X (compareOp .NotEq) rNeX := by
  intro pins s σ H x y v u Q I rx ry h
  obtain ⟨⟨a, b, ks, ls, rfl, rfl, h1, h2, hl, hp⟩, q⟩ := h
  obtain rfl : v = Value.ref a := rx
  obtain rfl : u = Value.ref b := ry
  obtain ⟨_, ya, va, ra, da⟩ := (show ObjOk X.prog X.w H s.heap a (.dK ks) from I.hok a _ h1)
  obtain ⟨_, yb, vb, rb, db⟩ := (show ObjOk X.prog X.w H s.heap b (.dK ls) from I.hok b _ h2)
  have el : va.length = vb.length := by
    rw [← ra.length, ← rb.length]
    exact hl
  refine PySem.W.keq_ne (knd := mixKind X.prog X.w) (r := true) ya yb da db (by omega) (fun _ => hits_x I (by show X.A.units + 1 + 10 < cLine; omega) rb ra hp) ?_
  exact ⟨.bl false, H, I, (by rw [el]; simp; rfl), q⟩
/-- d == {} -/
def rEq0 : R2 := fun x y H Q => ∃ (a b : Addr) (ks : List (Key × V)), x = .ref a ∧ y = .ref b ∧ H a = some (.dK ks) ∧ H b = some (.dK []) ∧ Q (.bl (ks.length == 0)) H
theorem op_eq0 (hu : X.A.units + 64 < cLine) : OpR X (compareOp .Eq) rEq0 := by
  intro pins s σ H x y v u Q I rx ry h
  obtain ⟨a, b, ks, rfl, rfl, h1, h2, q⟩ := h
  obtain rfl : v = Value.ref a := rx
  obtain rfl : u = Value.ref b := ry
  obtain ⟨_, ya, va, ra, da⟩ := (show ObjOk X.prog X.w H s.heap a (.dK ks) from I.hok a _ h1)
  obtain ⟨_, yb, vb, rb, db⟩ := (show ObjOk X.prog X.w H s.heap b (.dK []) from I.hok b _ h2)
  have e1 : va.length = ks.length := ra.length.symm
  have e2 : vb.length = 0 := rb.length.symm
  refine PySem.W.keq_eq (knd := mixKind X.prog X.w) (r := true) ya yb da db (by omega) (fun z => ?_) ?_
  · rw [e2] at z
    have ez : va = [] := List.eq_nil_of_length_eq_zero z
    rw [ez]
    exact .nil
  · exact ⟨.bl (ks.length == 0), H, I, (by rw [e1, e2, Bool.and_true]; rfl), q⟩
/-- the same of two addresses, within another thing -/
theorem deq_run (I : Inv X pins σ H s) {A : Around} (hu : A.units + 20 < cLine) {x y : V} {v u : Value} (h : DEq H x y) (rx : RelV x v) (ry : RelV y u) : SeqAt.EqP X.prog X.w A s v u true := by
  obtain ⟨a, b, ks, ls, rfl, rfl, h1, h2, hl, hp⟩ := h
  obtain rfl : v = Value.ref a := rx
  obtain rfl : u = Value.ref b := ry
  by_cases e : a = b
  · subst e
    exact (SeqAt.EqAt.same _).eqP
  · obtain ⟨_, ya, va, ra, da⟩ := (show ObjOk X.prog X.w H s.heap a (.dK ks) from I.hok a _ h1)
    obtain ⟨_, yb, vb, rb, db⟩ := (show ObjOk X.prog X.w H s.heap b (.dK ls) from I.hok b _ h2)
    have el : va.length = vb.length := by
      rw [← ra.length, ← rb.length]
      exact hl
    refine SeqAt.eqP_refs e fun E Q q => PySem.W.rcP_dicts (knd := mixKind X.prog X.w) (r := true) ya yb da db (by omega) (fun _ => SS.KeqHits.toP (hits_x I (by show A.units + 1 + 10 < cLine; omega) rb ra hp)) E Q ?_
    rw [el]
    simpa using q
open MeetsSeq MeetsSeq2 MeetsSeq3 SeqRoads2 in
theorem tupNe_in {P : Program} {w : World} (l b : Addr) (it it2 : Array Value) (n n2 : Nat) (dd dd2 : Option Addr) (sl sl2 : Array (Option Value)) (hz : it.size = it2.size) :
    MeetsIn P w (Builtin.«tuple.__ne__» ⟨[.ref l, .ref b], []⟩)
      (fun A R s => s.heap.get? l = some { cls := .type "tuple", dict := dd, data := .seq it n, slots := sl } ∧ s.heap.get? b = some { cls := .type "tuple", dict := dd2, data := .seq it2 n2, slots := sl2 } ∧
        (∀ j (h1 : j < it.size) (h2 : j < it2.size), SeqAt.EqP P w A.in1 s it[j] it2[j] true) ∧ R (.ok (.ret (.bool false))) s) := by
  intro A R s h
  refine wpAny_mono (Q := fun fin s' => ∃ f, fin = .done f ∧ R (.ok f) s') ?_ (fun fin s' z => by obtain ⟨f, rfl, z⟩ := z; exact z) (fun _ _ z => z)
  obtain ⟨hp, g, d, tk, os⟩ := s
  obtain ⟨hl, hb, he, h⟩ := h
  have f2 := AutoSeq1.sub_tuple_tuple
  have zl : (it.toList.zip it2.toList).length = it.size := by
    rw [List.length_zip, Array.length_toList, Array.length_toList, hz, Nat.min_self]
  wp_walk using AutoSeq1.wpAny_loadPart' hl, AutoSeq1.wpAny_loadPart' hb, wpAny_forIn_list _ (fun rest c s' => c.1 = none ∧ s' = ⟨hp, g, d, tk, os⟩ ∧ ∃ i, rest = (it.toList.zip it2.toList).drop i) _
  case turn =>
    rintro ⟨y, x⟩ rest c s' ⟨hc, rfl, i, zi⟩
    have hlt : i < (it.toList.zip it2.toList).length := Nat.lt_of_not_le fun hh => by
      rw [List.drop_of_length_le hh] at zi
      cases zi
    have h1 : i < it.size := by omega
    have h2 : i < it2.size := by omega
    rw [List.drop_eq_getElem_cons hlt] at zi
    injection zi with za zb
    have ey : y = it[i] := by
      have q := congrArg Prod.fst za
      simpa using q
    have ex : x = it2[i] := by
      have q := congrArg Prod.snd za
      simpa using q
    subst ey ex
    refine wpAny_bind (he i h1 h2 _ _ ?_)
    wp_walk
    exact ⟨rfl, rfl, i + 1, zb⟩
  case fin =>
    rintro ⟨c1, c2⟩ s' ⟨hc, rfl, i, zi⟩
    simp only at hc
    subst hc
    wp_walk
    exact ⟨_, rfl, by simpa [Builtin.Tuple.tupleCompareSizes, bne, hz] using h⟩
  case h =>
    exact ⟨rfl, rfl, 0, rfl⟩
/-- (d, e) != (f, g), dicts alike in their places -/
def rNeT (K : PySem.W.Frag) : R2 := fun x y H Q => ∃ (p q : Addr) (xs ys : List V), x = .ref p ∧ y = .ref q ∧ SqT K H p xs ∧ SqT K H q ys ∧ Paired (DEq H) xs ys ∧ Q (.bl false) H
theorem op_neT (hu : X.A.units + 64 < cLine) : OpR X (compareOp .NotEq) (rNeT X.K) := by
  intro pins s σ H x y v u Q I rx ry h
  obtain ⟨p, r, xs, ys, rfl, rfl, h1, h2, hp, q⟩ := h
  obtain rfl : v = Value.ref p := rx
  obtain rfl : u = Value.ref r := ry
  obtain ⟨us, r1, ⟨⟨c1, d1, e1, g1⟩, o1, o2, n1, o3⟩, _⟩ := I.tuple h1
  obtain ⟨ws, r2, ⟨⟨c2, d2, e2, g2⟩, t1, t2, n2, t3⟩, _⟩ := I.tuple h2
  have o2' : c1 = .type "tuple" := o2
  have o3' : e1 = .seq us.toArray n1 := o3
  have t2' : c2 = .type "tuple" := t2
  have t3' : e2 = .seq ws.toArray n2 := t3
  subst o2' o3' t2' t3'
  have hz : us.toArray.size = ws.toArray.size := by
    rw [List.size_toArray, List.size_toArray, ← r1.length, ← r2.length]
    exact Paired.length hp
  have ta : s.TypeIs (.ref p) "tuple" := ⟨_, o1, rfl⟩
  have tb : s.TypeIs (.ref r) "tuple" := ⟨_, t1, rfl⟩
  refine wpAny_richCompare_same_room (op := .NotEq) ta tb F.slot_tuple_ne (call_meetsIn F.slot_tuple_ne ta F.entry_tuple_ne (F.args_tuple_ne_2 _ _) (tupNe_in p r us.toArray ws.toArray n1 n2 d1 d2 g1 g2 hz)
    ⟨o1, t1, fun j j1 j2 => ?_, ⟨(fun z => nomatch z), ⟨.bl false, H, I, rfl, q⟩⟩⟩) (by omega)
  have k := items_run (P := X.prog) (w := X.w) (A := X.A.in1) (s := s) (F := DEq H) (fun x y v u hd rv ru => deq_run I (by show X.A.units + 1 + 20 < cLine; omega) hd rv ru) hp r1 r2 j (by simpa using j1) (by simpa using j2)
  simpa using k
end
end SS
namespace SS
open PySem PySem.Spec PyProof.Rows L2
/-! ### things within things compared: lists, tuples and dicts, to any depth -/
/-- one step: two lists, two tuples or two dicts, alike in their places -/
def XR (K : PySem.W.Frag) (H : Hp) (E : V → V → Prop) (x y : V) : Prop :=
  EqR K H E x y ∨ ∃ a b xs ys, x = .ref a ∧ y = .ref b ∧ SqT K H a xs ∧ SqT K H b ys ∧ Paired E xs ys
def XV (K : PySem.W.Frag) (H : Hp) : Nat → V → V → Prop
  | 0 => fun _ _ => False
  | n + 1 => fun x y => (x = y ∧ flatB x = true) ∨ (∃ a, x = .ref a ∧ y = .ref a) ∨ XR K H (XV K H n) x y
section
variable {X : Cx} {pins : List (Addr × Obj)} {σ : L2.St} {H : Hp} {s : Shared}
theorem xr_run (I : Inv X pins σ H s) {A : Around} {F : V → V → Prop} (hu : A.units < cLine) (ih : ∀ x y v u, F x y → RelV x v → RelV y u → SeqAt.EqP X.prog X.w A.in1 s v u true) {x y : V} {v u : Value} (h : XR X.K H F x y) (rx : RelV x v) (ry : RelV y u)
    (E Q : Value → Shared → Prop) (q : Q (.bool true) s) : wpAny (model X.prog X.w) A (richCompare .Eq v u) Q E s := by
  rcases h with h | ⟨a, b, xs, ys, rfl, rfl, ha, hb, hp⟩
  · exact eqR_run I hu ih h rx ry E Q q
  · cases (show v = Value.ref a from rx)
    cases (show u = Value.ref b from ry)
    obtain ⟨us, r1, p1, _⟩ := I.tuple ha
    obtain ⟨ws, r2, p2, _⟩ := I.tuple hb
    have hsz : us.toArray.size = ws.toArray.size := by
      rw [List.size_toArray, List.size_toArray, ← r1.length, ← r2.length]
      exact Paired.length hp
    refine SeqAt.rcIn_tuples (e := fun _ => true) p1 p2 hu (fun j h1 h2 => ?_) ?_
    · have k := items_run ih hp r1 r2 j (by simpa using h1) (by simpa using h2)
      have k' : SeqAt.EqP X.prog X.w A.in1 s us.toArray[j] ws.toArray[j] true := by simpa using k
      exact k'
    · rw [show ((List.range (min us.toArray.size ws.toArray.size)).all fun _ => true) = true from List.all_eq_true.mpr fun _ _ => rfl, hsz]
      simpa using q
theorem xv_run (I : Inv X pins σ H s) : ∀ (n : Nat) (A : Around), A.units + n < cLine → ∀ (x y : V) (v u : Value), XV X.K H n x y → RelV x v → RelV y u → SeqAt.EqP X.prog X.w A s v u true
  | 0, _, _, _, _, _, _, h, _, _ => (show False from h).elim
  | n + 1, A, hu, x, y, v, u, h, rx, ry => by
    rcases h with ⟨rfl, f⟩ | ⟨a, rfl, rfl⟩ | h
    · exact (eqAt_same rx ry f).eqP
    · cases (show v = Value.ref a from rx)
      cases (show u = Value.ref a from ry)
      exact (SeqAt.EqAt.same _).eqP
    · have step := xr_run I (A := A) (by omega) (xv_run I n A.in1 (by show A.units + 1 + n < cLine; omega)) h rx ry
      obtain ⟨a, b, rfl, rfl⟩ : ∃ a b, x = .ref a ∧ y = .ref b := by
        rcases h with (⟨a, b, _, _, e1, e2, _⟩ | ⟨a, b, _, _, e1, e2, _⟩) | ⟨a, b, _, _, e1, e2, _⟩ <;> exact ⟨a, b, e1, e2⟩
      cases (show v = Value.ref a from rx)
      cases (show u = Value.ref b from ry)
      by_cases e : a = b
      · subst e
        exact (SeqAt.EqAt.same _).eqP
      · exact SeqAt.eqP_refs e step
/-- a == b, equal things -/
def rEqXV (K : PySem.W.Frag) : R2 := fun x y H Q => ∃ n, n ≤ 60 ∧ XR K H (XV K H n) x y ∧ Q (.bl true) H
theorem op_eqXV (hu : X.A.units + 64 < cLine) : OpR X (compareOp .Eq) (rEqXV X.K) := by
  intro pins s σ H x y v u Q I rx ry h
  obtain ⟨n, hn, h, q⟩ := h
  exact xr_run I (A := X.A) (by omega) (xv_run I n X.A.in1 (by show X.A.units + 1 + n < cLine; omega)) h rx ry _ _ ⟨.bl true, H, I, rfl, q⟩
/-- (..) != (..), two tuples that are equal -/
def rNeXT (K : PySem.W.Frag) : R2 := fun x y H Q => ∃ (n : Nat) (p q : Addr) (xs ys : List V), n ≤ 50 ∧ x = .ref p ∧ y = .ref q ∧ SqT K H p xs ∧ SqT K H q ys ∧ Paired (XV K H n) xs ys ∧ Q (.bl false) H
theorem op_neXT (hu : X.A.units + 64 < cLine) : OpR X (compareOp .NotEq) (rNeXT X.K) := by
  intro pins s σ H x y v u Q I rx ry h
  obtain ⟨n, p, r, xs, ys, hn, rfl, rfl, h1, h2, hp, q⟩ := h
  obtain rfl : v = Value.ref p := rx
  obtain rfl : u = Value.ref r := ry
  obtain ⟨us, r1, ⟨⟨c1, d1, e1, g1⟩, o1, o2, n1, o3⟩, _⟩ := I.tuple h1
  obtain ⟨ws, r2, ⟨⟨c2, d2, e2, g2⟩, t1, t2, n2, t3⟩, _⟩ := I.tuple h2
  have o2' : c1 = .type "tuple" := o2
  have o3' : e1 = .seq us.toArray n1 := o3
  have t2' : c2 = .type "tuple" := t2
  have t3' : e2 = .seq ws.toArray n2 := t3
  subst o2' o3' t2' t3'
  have hz : us.toArray.size = ws.toArray.size := by
    rw [List.size_toArray, List.size_toArray, ← r1.length, ← r2.length]
    exact Paired.length hp
  have ta : s.TypeIs (.ref p) "tuple" := ⟨_, o1, rfl⟩
  have tb : s.TypeIs (.ref r) "tuple" := ⟨_, t1, rfl⟩
  refine wpAny_richCompare_same_room (op := .NotEq) ta tb F.slot_tuple_ne (call_meetsIn F.slot_tuple_ne ta F.entry_tuple_ne (F.args_tuple_ne_2 _ _) (tupNe_in p r us.toArray ws.toArray n1 n2 d1 d2 g1 g2 hz)
    ⟨o1, t1, fun j j1 j2 => ?_, ⟨(fun z => nomatch z), ⟨.bl false, H, I, rfl, q⟩⟩⟩) (by omega)
  have k := items_run (P := X.prog) (w := X.w) (A := X.A.in1) (s := s) (F := XV X.K H n) (fun x y v u hd rv ru => xv_run I n _ (by show X.A.units + 1 + n < cLine; omega) _ _ _ _ hd rv ru) hp r1 r2 j (by simpa using j1) (by simpa using j2)
  simpa using k
end
end SS
namespace GxA
open PySem PySem.Spec PyProof.Rows L2
/-! ### all(elt for x in iter): any element, a frame of its own -/
/-- the context of a generator expression's frame -/
def gx (X : Cx) (scope : Scope) (A : Around) (s : Shared) (H : Hp) (C : Addr) (code : Value) (cl : List (Str × Addr)) (fp : List Addr) : Cx where
  prog := X.prog
  w := X.w
  K := X.K
  mg := X.mg
  base := X.base
  A := A
  N := X.N
  s_0 := s
  H_0 := H
  env := genEnv scope cl C code builtinsNs X.env
  outer := X.stack
  stack := genEnv scope cl C code builtinsNs X.env :: X.stack
  ex := fp
  fn := fun _ => false
  calm := true
  pn := []
  xe := fun _ _ => False
/-- the names of a generator expression and of the def around it -/
structure GxS (N : List Str) (sc scope : Scope) (x : Str) (ix : Nat) : Prop where
  kind : scope.kind = .function
  co : scope.isCoroutine = false
  cell : ∀ y ∈ scope.names, y.2 ≠ .cell
  dot : scope.names.lookup (".0" : Str) = some NameKind.local
  loc : scope.names.lookup x = some .local
  locs : ∀ y ∈ scope.names, y.2 = .local → y.1 = x ∨ y.1 = (".0" : Str)
  free : ∀ y ∈ scope.names, y.2 = .free → sc.names.lookup y.1 = some .cell ∨ sc.names.lookup y.1 = some .free
  ix : N[ix]? = some x
  nodot : (".0" : Str) ∉ N
  nd : N.Nodup
section
variable {X : Cx} {pins : List (Addr × Obj)} {σ : L2.St} {H : Hp} {s : Shared}
theorem GxS.cells {scope : Scope} {x : Str} {ix : Nat} (S : GxS X.N X.env.scope scope x ix) (ok : X.Ok) : ∀ y ∈ scope.names, y.2 = .free → ∃ c, X.env.cells.lookup y.1 = some c := fun y hy hf => by
  exact ok.has y.1 (S.free y hy hf)
theorem inv_gx {scope : Scope} {x : Str} {ix : Nat} {A : Around} {code : Value} {fp : List Addr} {a : Addr} {go : Obj} {g' : Array GenState} {tk : Nat} {h' : Heap} {m : Str → Option Value}
    (I : Inv X pins σ H s) (S : GxS X.N X.env.scope scope x ix) (hfp : ∀ b ∈ fp, FpOk X pins H b) (hob : ∀ b ∈ fp, ∃ o, s.heap.get? b = some o) (hA : A.handled = none)
    (hAf : A.frames = some (genEnv scope (cloFrom X.env.cells scope.names []) s.heap.objs.size code builtinsNs X.env :: X.stack)) (hk : ∀ b o, s.heap.get? b = some o → h'.get? b = some o) (hns : h'.Ns s.heap.objs.size m)
    (hg : AllBare g') (ha : h'.get? a = some go) (hsz : s.heap.objs.size < a) (hgo : ∀ v, go.data ≠ .cell v) :
    Inv (gx X scope A s H s.heap.objs.size code (cloFrom X.env.cells scope.names []) fp) [(a, go)] (σ.set ix none) H { s with gens := g', toks := tk, heap := h' } := by
  have hfree := S.cells I.ok
  have cm : ∀ {y : Str} {c : Addr}, (cloFrom X.env.cells scope.names []).lookup y = some c → X.env.cells.lookup y = some c := fun e => NdefX.clo_cm hfree e
  have lt : ∀ b o, s.heap.get? b = some o → b < s.heap.objs.size := fun b o e => Heap.lt_size e
  refine ⟨⟨I.ok.mod, S.kind, I.ok.glob, rfl, Nat.le_refl _, fun y z c h1 h2 => I.ok.inj y z c (cm h1) (cm h2), fun y hy => ?_, fun y c z => (by cases z), fun _ => hA, hAf, .inr ⟨rfl, rfl⟩, fun b hb => ⟨?_, fun y c e => (hfp b hb).2.2.2.2.1 y c (cm e)⟩, I.bs, Nat.le_trans I.ok.bsz I.sz, fun b o e hb => ?_, fun b hb hm => ?_, I.stack, I.stkFree⟩,
    rfl, hg, Un.kept hk, ⟨m, hns, fun i y v h1 h2 h3 => ?_⟩, fun y c e => ?_, I.hok.fresh (Nat.le_refl _), fun y c e => I.freeC y c (cm e), fun p hp => ?_, I.hok.kept hk, ?_⟩
  · have hy : scope.names.lookup y = some .cell ∨ scope.names.lookup y = some .free := hy
    rcases hy with hy | hy
    · exact absurd rfl (S.cell _ (PySem.mem_of_lookup hy))
    · obtain ⟨c, hc⟩ := hfree _ (PySem.mem_of_lookup hy) rfl
      exact ⟨c, NdefX.clo_has hfree (PySem.mem_of_lookup hy) hc⟩
  · obtain ⟨o, e⟩ := hob b hb
    exact Nat.ne_of_lt (lt b o e)
  · rcases (hfp b hb).2.2.2.1 with z | z
    · exact I.ok.noex b o e z
    · exact absurd (Nat.lt_of_lt_of_le (Nat.lt_of_lt_of_le (Heap.lt_size e) I.ok.bsz) z) (Nat.lt_irrefl _)
  · rcases List.mem_cons.mp (I.stkSub b hm) with z | z
    · exact (hfp b hb).2.1 z
    · exact (hfp b hb).2.2.1 z
  · have ne : i ≠ ix := fun e => by
      subst e
      by_cases c : i < σ.length
      · rw [List.getElem?_set_self c] at h2
        cases h2
      · rw [List.getElem?_eq_none (by rw [List.length_set]; omega)] at h2
        cases h2
    rw [List.getElem?_set_ne (Ne.symm ne)] at h2
    have hv : scope.names.lookup y = some .local ∨ scope.names.lookup y = some .cell ∨ scope.names.lookup y = some .free := h3
    have h1' : X.N[i]? = some y := h1
    rcases hv with z | z | z
    · rcases S.locs _ (PySem.mem_of_lookup z) rfl with e | e
      · have e' : y = x := e
        rw [e'] at h1'
        have hi := (List.getElem?_eq_some_iff.mp h1').1
        exact absurd ((List.getElem?_inj hi S.nd).mp (h1'.trans S.ix.symm)) ne
      · have e' : y = (".0" : Str) := e
        rw [e'] at h1'
        exact absurd (List.mem_of_getElem? h1') S.nodot
    · exact absurd rfl (S.cell _ (PySem.mem_of_lookup z))
    · have hx := S.free _ (PySem.mem_of_lookup z) rfl
      have hx' : X.env.scope.names.lookup y = some .cell ∨ X.env.scope.names.lookup y = some .free := hx
      obtain ⟨m', _, hl⟩ := I.loc
      obtain ⟨u, ru, lk⟩ := hl i y v h1' h2 (.inr hx')
      refine ⟨u, ru, .inr ⟨.inr z, ?_⟩⟩
      rcases lk with ⟨k, _⟩ | ⟨_, c, ec, ⟨oc, eo, ed⟩⟩
      · have k' : X.env.scope.names.lookup y = some .local := k
        rw [k'] at hx'
        rcases hx' with q | q <;> cases q
      · exact ⟨c, NdefX.clo_has hfree (PySem.mem_of_lookup z) ec, oc, hk _ _ eo, ed⟩
  · obtain ⟨v, o, ho, hd⟩ := I.cell y c (cm e)
    exact ⟨v, o, hk _ _ ho, hd⟩
  · have hp' : p ∈ [(a, go)] := hp
    rw [List.mem_singleton.mp hp']
    exact ⟨ha, I.hok.fresh (Nat.le_of_lt hsz), Nat.ne_of_gt hsz, fun hm => by
      rcases List.mem_cons.mp (I.stkSub a hm) with z | z
      · have h1 := I.lt
        rw [← z] at h1
        exact Nat.lt_asymm h1 hsz
      · exact I.nofs (Nat.le_of_lt hsz) z, hgo⟩
  · show (σ.set ix none).length = X.N.length
    rw [List.length_set]
    exact I.len
/-- back in the def's own frame -/
theorem inv_back {scope : Scope} {A : Around} {C : Addr} {code : Value} {cl : List (Str × Addr)} {fp : List Addr} {pz : List (Addr × Obj)} {σ' : L2.St} {H' : Hp} {s1 s' : Shared} (I : Inv X pins σ H s) (hfp : ∀ b ∈ fp, FpOk X pins H b)
    (J : Inv (gx X scope A s H C code cl fp) pz σ' H' s1) (ho : s'.os = s1.os) (hk : ∀ b o, s1.heap.get? b = some o → s'.heap.get? b = some o) (hg : AllBare s'.gens) : Inv X pins σ H' s' := by
  have u : Un (frs X.stack) fp H H' s.heap s1.heap := J.base
  refine I.call' (ch := fp) (ho.trans J.os) (u.trans (Un.kept hk)) (J.hok.kept hk) hg fun b hb => ?_
  obtain ⟨_, f1, _, f3, f4, f5⟩ := hfp b hb
  exact ⟨f3, f1, f4, f5⟩
end
/-- the consumer does nothing but look at the value -/
structure Again (s s' : Shared) : Prop where
  heap : s'.heap = s.heap
  os : s'.os = s.os
  bare : AllBare s'.gens
section
variable {X : Cx} {pins : List (Addr × Obj)} {σ : L2.St} {H : Hp} {s : Shared}
/-- the end of the walk; an element handed out -/
def RA (Y : Cx) (pz : List (Addr × Obj)) (Q : VK) : GenEnd := fun _ _ r s1 => r = .ok .next ∧ ∃ σ' H', Inv Y pz σ' H' s1 ∧ Q (.bl true) H'
def YA (Y : Cx) (pz : List (Addr × Obj)) (Q : VK) : Protocol := fun _ _ v s1 kap =>
  ∃ b σ' H', v = .bool b ∧ Inv Y pz σ' H' s1 ∧ (b = false → Q (.bl false) H') ∧ (b = true → ∀ s', Again s1 s' → kap (.send .none) s')
theorem Inv.again {Y : Cx} {pz : List (Addr × Obj)} {σ' : L2.St} {H' : Hp} {s1 s2 : Shared} (J : Inv Y pz σ' H' s1) (z : Again s1 s2) : Inv Y pz σ' H' s2 := by
  refine J.call' (ch := []) z.os (Un.kept fun b o e => by rw [z.heap]; exact e) (by rw [z.heap]; exact J.hok) z.bare fun b hb => by cases hb
/-- one turn's question, and what follows -/
def AllW (J : It) (te : TE) (σ : L2.St) (ix : Nat) (Q : VK) (W : Nat → Nat → Hp → Prop) : Prop := ∀ i m H', W i m H' →
  (J.stop i H' ∧ Q (.bl true) H') ∨ (J.go i H' ∧ ∃ N : Hp → Prop, (∀ H'', N H'' → ∃ m', m' < m ∧ W (i + 1) m' H'') ∧
    ∀ x H'', J.yld i H' x H'' → te (σ.set ix (some x)) H'' fun v H3 => ∃ b, v = .bl b ∧ (b = true → N H3) ∧ (b = false → Q (.bl false) H3))
theorem seg_all {elt iter : Expr} {x : Str} {px gpos : Pos} {scope : Scope} {B : Around} {C : Addr} {code : Value} {cl : List (Str × Addr)} {fp : List Addr} {it : Addr} {tn : Nat → Heap → Prop} {J : It} {te : TE} {ix : Nat} {Q : VK} {W : Nat → Nat → Hp → Prop} {pz : List (Addr × Obj)}
    (S : GxS X.N X.env.scope scope x ix) (T : Turn X.prog X.w X.K (.Name x px) J fp it tn)
    (hY : (B.over (.compLoop (.GeneratorExp elt [⟨.Name x px, iter, [], 0⟩] scope gpos) 0 (.ref it) .none (genEnv scope cl C code builtinsNs X.env)) []) = B.deeper (genEnv scope cl C code builtinsNs X.env))
    (he : PE (gx X scope (B.deeper (genEnv scope cl C code builtinsNs X.env)) s H C code cl fp) elt te) (hW : AllW J te σ ix Q W)
    (hpz : ∀ p ∈ pz, ∀ b ∈ fp, p.1 ≠ b) (hex : ∀ b ∈ fp, b ≠ C ∧ b ∉ frs X.stack ∧ ∀ y c, cl.lookup y = some c → c ≠ b) :
    ∀ (m n i : Nat) (o : Option V) (H' : Hp) (s₀ s1 : Shared), m < n → W i m H' → Inv (gx X scope (B.deeper (genEnv scope cl C code builtinsNs X.env)) s H C code cl fp) pz (σ.set ix o) H' s1 → tn i s1.heap → (∀ b ∈ fp, H' b = none) →
      Seg (model X.prog X.w) B (RA (gx X scope (B.deeper (genEnv scope cl C code builtinsNs X.env)) s H C code cl fp) pz Q) (YA (gx X scope (B.deeper (genEnv scope cl C code builtinsNs X.env)) s H C code cl fp) pz Q) n s₀
        (.compLoop (.GeneratorExp elt [⟨.Name x px, iter, [], 0⟩] scope gpos) 0 (.ref it) .none (genEnv scope cl C code builtinsNs X.env))
        ((model X.prog X.w).den (.compLoop (.GeneratorExp elt [⟨.Name x px, iter, [], 0⟩] scope gpos) 0 (.ref it) .none (genEnv scope cl C code builtinsNs X.env))) [] s1 := by
  intro m
  induction m using Nat.strongRecOn with
  | ind m ih =>
    intro n i o H' s₀ s1 hmn w I1 st1 fr1
    have fpok : ∀ {H1 : Hp}, (∀ b ∈ fp, H1 b = none) → ∀ b ∈ fp, FpOk (gx X scope (B.deeper (genEnv scope cl C code builtinsNs X.env)) s H C code cl fp) pz H1 b := fun hn b hb =>
      ⟨hn b hb, (hex b hb).1, (hex b hb).2.1, .inl hb, (hex b hb).2.2, fun p hp => hpz p (by simpa [gx] using hp) b hb⟩
    show Seg _ B _ _ n s₀ _ ((compTurn (.GeneratorExp elt [⟨.Name x px, iter, [], 0⟩] scope gpos) 0 (.ref it) .none (genEnv scope cl C code builtinsNs X.env)).onRaise (leaving (genEnv scope cl C code builtinsNs X.env))) [] s1
    rw [compTurn_gen, Sem.onRaise_eq_wrap]
    refine seg_bind_wrap (wpAny_standAt ?_)
    rcases hW i m H' w with ⟨stop, q⟩ | ⟨go, N, hN, step⟩
    · refine seg_bind_wrap ?_
      rw [hY]
      refine wpAny_mono (T.done (gx X scope (B.deeper (genEnv scope cl C code builtinsNs X.env)) s H C code cl fp) rfl rfl rfl rfl i pz s1 _ H' (fun _ _ => False) I1 (fpok fr1) st1 stop) (fun r s2 h2 => ?_) fun _ _ e => e.elim
      obtain ⟨rfl, I2⟩ := h2
      exact seg_end (.ok .next) ⟨rfl, _, H', I2, q⟩
    · obtain ⟨n, rfl⟩ : ∃ n', n = n' + 1 := ⟨n - 1, by omega⟩
      refine seg_bind_wrap ?_
      rw [hY]
      refine wpAny_mono (T.item (gx X scope (B.deeper (genEnv scope cl C code builtinsNs X.env)) s H C code cl fp) rfl rfl rfl rfl i pz s1 _ H' (fun _ _ => False) I1 (fpok fr1) st1 go) (fun r s2 h2 => ?_) fun _ _ e => e.elim
      obtain ⟨u, rfl, h2⟩ := h2
      refine seg_bind_wrap ?_
      rw [hY]
      refine wpAny_mono h2 (fun _ s3 h3 => ?_) fun _ _ e => e.elim
      obtain ⟨xv, H3, I3, r3, y3, st3, fr3⟩ := h3
      have I3' := Inv.pinned I3 (fpok fr3) (T.obj _ _ st3)
      refine seg_bind_wrap ?_
      rw [hY]
      have hpg : PG (gx X scope (B.deeper (genEnv scope cl C code builtinsNs X.env)) s H C code cl fp) (.Name x px) (gName ix) := pg_name S.nd S.ix (.inl S.loc) (.inr S.loc)
      refine wpAny_mono (hpg.run _ s3 _ H3 xv u (fun σ' H'' => σ' = σ.set ix (some xv) ∧ H'' = H3) I3' r3 ⟨by rw [List.set_set], rfl⟩) (fun _ s4 h4 => ?_) fun _ _ e => e.elim
      obtain ⟨σ4, H4, I4, rfl, rfl⟩ := h4
      refine seg_bind_wrap (wpAny_pure ?_)
      simp only [if_true]
      have hy : ∀ v, yieldOut (genEnv scope cl C code builtinsNs X.env) v = yieldValue v := fun v => by simp only [yieldOut, genEnv, S.co, Bool.false_eq_true, if_false]
      simp only [hy]
      rw [Sem.bind_eq_wrap', Sem.bind_eq_wrap', Sem.wrap_wrap, Sem.wrap_wrap]
      refine seg_wrap ?_
      rw [hY]
      refine wpAny_mono (he.run _ s4 _ H4 _ I4 (step xv H4 y3)) (fun v s5 h5 => ?_) fun _ _ e => e.elim
      obtain ⟨ve, H5, I5, r5, b, rfl, hb1, hb2⟩ := h5
      obtain rfl : v = Value.bool b := r5
      refine seg_at (seg_yield rfl rfl rfl ⟨b, _, H5, rfl, I5.unpinned, hb2, fun hb s6 z => ?_⟩)
      obtain ⟨m', hm', w'⟩ := hN H5 (hb1 hb)
      have I6 := Inv.again I5 z
      refine seg_again rfl (ih m' hm' n (i + 1) _ H5 s6 s6 (by omega) w' I6.unpinned ?_ fun b' hb' => ?_)
      · exact T.keep _ _ _ st3 fun b' hb' o' e' => (I6.pin (b', o') (List.mem_append_right _ (List.mem_append_right _ (mem_pinsAt hb' e')))).1
      · obtain ⟨o', e', d'⟩ := T.obj _ _ st3 b' hb'
        exact (I6.pin (b', o') (List.mem_append_right _ (List.mem_append_right _ (mem_pinsAt hb' e')))).2.1
end
end GxA
namespace GxA
open PySem PySem.Spec PyProof.Rows L2
theorem all_loop {prog : Program} {w : World} {A : Around} {a : Addr} {R : Result → Shared → Prop} {Rt : Bool → Shared → Prop} (St : Nat → Shared → Prop) (hR : ∀ b s', Rt b s' → R (.ok (.ret (.bool b))) s')
    (turn : ∀ n s E, St n s → wpAny (model prog w) A.in1 (pyNext (.ref a)) (fun r s' => (r = none ∧ Rt true s') ∨ ∃ b, r = some (.bool b) ∧ (b = true → ∃ n', n' < n ∧ St n' s') ∧ (b = false → Rt false s')) E s) :
    ∀ n s, St n s → codeAny (model prog w) A (.builtin "all.loop" ⟨[.ref a], []⟩) R s := by
  intro n
  induction n using Nat.strongRecOn with
  | ind n ih =>
    intro s hst
    refine codeAny_builtin F.entry_all_loop ?_
    rw [Around.under_plainId F.plain_all_loop _]
    show wpAny _ A.in1 (pyNext (.ref a) >>= _) _ _ s
    refine wpAny_bind (wpAny_mono (turn n s _ hst) (fun r s' h => ?_) fun _ _ e => e)
    rcases h with ⟨rfl, h⟩ | ⟨b, rfl, h1, h2⟩
    · refine wpAny_bind (wpAny_rule (wpAny_pure ?_))
      exact hR true s' h
    · refine wpAny_bind (wpAny_holding (wpAny_truthy_bool ?_))
      refine wpAny_bind (wpAny_letGo ?_)
      cases b with
      | true =>
        simp only [if_true]
        obtain ⟨n', hn, hst'⟩ := h1 rfl
        exact wpAny_pure ⟨plainId_quiet F.plain_all_loop _, ih n' hn s' hst'⟩
      | false =>
        simp only [Bool.false_eq_true, if_false]
        refine wpAny_bind (wpAny_rule (wpAny_pure ?_))
        exact hR false s' (h2 rfl)
theorem bare_set {s : Shared} {g : Nat} {x : GenState} (h : AllBare s.gens) (hx : x.bare = true) : AllBare (s.setGen g x).gens := fun y hy => by
  have hy' : y ∈ s.gens.setIfInBounds g x := hy
  obtain ⟨i, hi, rfl⟩ := Array.mem_iff_getElem.mp hy'
  have hi' : i < s.gens.size := by simpa using hi
  rw [Array.getElem_setIfInBounds hi']
  split
  · exact hx
  · exact h _ (Array.getElem_mem _)
def tAllG (P : Addr) (ix : Nat) (wi : TI) (te : TE) : TE := fun σ H Q => wi σ H fun J H1 => GxR.TabG H1 P ∧ ∀ H2, GxR.Tabbed P H1 H2 → ∃ W : Nat → Nat → Hp → Prop, (∃ m, W 0 m H2) ∧ AllW J te σ ix Q W
section
variable {X : Cx} {pins : List (Addr × Obj)} {σ : L2.St} {H : Hp} {s : Shared}
theorem over_deeper {B : Around} {elt : Expr} {gs : List Comprehension} {scope : Scope} {pos : Pos} {it : Value} {env : Env} : B.over (.compLoop (.GeneratorExp elt gs scope pos) 0 it .none env) [] = B.deeper env := by
  first
    | rfl
    | (obtain ⟨hd, d, fr, gd, u⟩ := B; simp [Around.over, Around.deeper, marksOver, frameCount, unitsOf, envsOf, guardsOf, pushEnvs, pushGuards, Code.envs, Code.env?, Code.isFrame, Code.guards, Code.isGuard, Code.weight, Code.frames, Code.isCreation, Code.isCaller, Code.cUnits])
set_option maxHeartbeats 4000000 in
theorem pe_allG {c P : Addr} {elt iter : Expr} {x : Str} {px p pos gpos : Pos} {scope : Scope} {wi : TI} {te : TE} {ix k : Nat}
    (hr : Room (k + 2) X.A) (hg : Gl X "all") (hm : X.mg "all" = none) (hb : bootBuiltins "all" = some (.builtin "all")) (TB : GxR.TabB X.base X.mg c P) (hcode : X.env.code = .ref c) (S : GxS X.N X.env.scope scope x ix) (hi : PI X (.Name x px) iter wi)
    (he : ∀ (s : Shared) (H : Hp) (C : Addr) (code : Value) (cl : List (Str × Addr)) (fp : List Addr), PE (gx X scope (X.A.in1.in1.deeper (genEnv scope cl C code builtinsNs X.env)) s H C code cl fp) elt te)
    (hs : ∀ v, genFold iter X.env v = pure v)
    (hst : starEach [.GeneratorExp elt [⟨.Name x px, iter, [], 0⟩] scope gpos] X.env = (false, eval (.GeneratorExp elt [⟨.Name x px, iter, [], 0⟩] scope gpos) X.env) :: starEach [] X.env := by rfl) :
    PE X (.Call (.Name "all" p) [.GeneratorExp elt [⟨.Name x px, iter, [], 0⟩] scope gpos] [] pos) (tAllG P ix wi te) := by
  refine ⟨fun pins s σ H Q I h => ?_⟩
  refine wpAny_Call_Name_kw (ld_blt I hg hm hb ?_)
  refine PyProof.Rows.callWith_builtin1 ?_ hst (by rfl)
  rw [hst]
  show wpAny _ _ (spliced ((false, eval (.GeneratorExp elt [⟨.Name x px, iter, [], 0⟩] scope gpos) X.env) :: backTo pos (starEach [] X.env))) _ _ s
  refine Calls.spliced_cons (wpAny_GeneratorExp_make S.co (closure_ok (S.cells I.ok)) S.cell S.dot S.kind (by have := hr.dp; omega) ?_ hs)
  refine thn (hi.run pins s σ H _ I h) fun xv s1 h1 => thn h1 fun itv s2 h2 => ?_
  obtain ⟨it, fp, tn, J, H2, rfl, I2, T, st2, f2, ⟨ps, hP, ht⟩, q2⟩ := h2
  refine ⟨I2.nolimit, ?_⟩
  have hPs : s2.heap.get? P = some { cls := .none, data := .fields ps } := I2.hok P _ hP
  have cd : PySem.W.CodeHd s2.heap c P := TB.code.keeps fun b u e => I2.bk b u e
  have nfP : ∀ b ∈ fp, b ≠ P := fun b hb e => by
    have z := (f2 b hb).1
    rw [e, hP] at z
    cases z
  have cont : ∀ (code : Value) (h3 : Heap) (tk : Nat) (ps' : Array Value), Heap.ExtBut P s2.heap h3 → h3.get? P = some { cls := .none, data := .fields ps' } → (∃ more, ps' = ps ++ more) → TriplesOk ps'.toList →
      wpAny (model X.prog X.w) X.A (builtinsFor X.env.globals X.env.builtins) (fun bi s₄ =>
        ∀ h', h'.Ns s₄.heap.objs.size (fun y => if y = ".0" then some (.ref it) else none) → Heap.SameBut s₄.heap.objs.size (s₄.heap.push { cls := .type "frame", data := .dict #[] }) h' →
          (fun v s' => wpAny (model X.prog X.w) X.A (spliced (backTo pos (starEach [] X.env))) (fun vs s'' => wpAny (model X.prog X.w) X.A (call (.builtin "all") (v :: vs)) (EP X pins σ Q) X.xe s'') X.xe s') (.ref h'.objs.size) { s₄ with
            gens := s₄.gens.push (.fresh (.compStart (.GeneratorExp elt [⟨.Name x px, iter, [], 0⟩] scope gpos) 0 (.ref it) .none (genEnv scope (cloFrom X.env.cells scope.names []) s₄.heap.objs.size code bi X.env))),
            toks := s₄.toks + 1 + 1 + 1,
            heap := h'.push { cls := .type "generator", data := .fields #[.int s₄.gens.size 0, .str "<genexpr>" (s₄.toks + 1), .str (X.env.qual ++ "<genexpr>") (s₄.toks + 1 + 1)] } }) X.xe { s2 with heap := h3, toks := tk } := by
    intro code h3 tk ps' hx hP3 hmore ht3
    obtain ⟨more, em⟩ := hmore
    subst em
    have I3 : Inv X pins σ (upd H2 P (.tbl (ps ++ more))) { s2 with heap := h3, toks := tk } := GxR.inv_tab (g' := s2.gens) (d' := s2.drawn) I2 hP (fun b o hb e => hx b o hb e) hP3 I2.bare
    have hTb : GxR.Tabbed P H2 (upd H2 P (.tbl (ps ++ more))) := ⟨⟨_, upd_same, ht3⟩, fun b hb => upd_ne hb⟩
    have f3 : ∀ b ∈ fp, FpOk X pins (upd H2 P (.tbl (ps ++ more))) b := fun b hb => ⟨by rw [upd_ne (nfP b hb)]; exact (f2 b hb).1, (f2 b hb).2⟩
    have st3 : tn 0 h3 := T.keep _ _ _ st2 fun b hb o e => hx b o (nfP b hb) e
    obtain ⟨W, ⟨m0, w0⟩, hW⟩ := q2 _ hTb
    generalize upd H2 P (.tbl (ps ++ more)) = H3 at I3 hTb f3 w0
    generalize hs4 : ({ s2 with heap := h3, toks := tk } : Shared) = s4 at I3
    have st4 : tn 0 s4.heap := by rw [← hs4]; exact st3
    obtain ⟨bm, ob, e1, e2, e3, e4, e5, e6, e7, e8⟩ := TB.bm
    refine wpAny_builtinsFor (m := X.mg) (by rw [I3.ok.glob]; exact I3.mod.glob.keeps I3.bk) e1 e2 (I3.bk _ _ e5) e6 e7 e8 ?_
    intro h' hn' hs'
    refine Calls.spliced_nil ?_
    have hsz : h'.objs.size = s4.heap.objs.size + 1 := by rw [hs'.1, Heap.size_push]
    have keep' : ∀ b o, s4.heap.get? b = some o → h'.get? b = some o := fun b o e => hs'.extBut b o (Nat.ne_of_lt (Heap.lt_size e)) (Heap.get?_push_of_some _ e)
    generalize hgo : ({ cls := .type "generator", data := .fields #[.int s4.gens.size 0, .str "<genexpr>" (s4.toks + 1), .str (X.env.qual ++ "<genexpr>") (s4.toks + 1 + 1)] } : Obj) = go
    have keep5 : ∀ b o, s4.heap.get? b = some o → (h'.push go).get? b = some o := fun b o e => Heap.get?_push_of_some _ (keep' b o e)
    have hgi : ∀ hh : Heap, hh.get? h'.objs.size = some go → hh.IsGen h'.objs.size s4.gens.size := fun hh e => ⟨go, _, _, e, by rw [← hgo], by rw [← hgo], by rw [← hgo]⟩
    have ha5 : (h'.push go).get? h'.objs.size = some go := Heap.get?_push_size _ (by rw [← hgo]; rfl)
    have hob : ∀ b ∈ fp, ∃ o, s4.heap.get? b = some o := fun b hb => let ⟨o, e, _⟩ := T.obj _ _ st4 b hb; ⟨o, e⟩
    have hgc : ∀ v, go.data ≠ .cell v := fun v z => by
      rw [← hgo] at z
      cases z
    generalize hcl : cloFrom X.env.cells scope.names [] = cl
    have hA : (X.A.in1.in1.deeper (genEnv scope cl s4.heap.objs.size code builtinsNs X.env)).handled = none := hr.hd
    have hAf : (X.A.in1.in1.deeper (genEnv scope cl s4.heap.objs.size code builtinsNs X.env)).frames = some (genEnv scope cl s4.heap.objs.size code builtinsNs X.env :: X.stack) := Around.frames_deeper (A := X.A.in1.in1) I3.ok.frames
    have hex : ∀ b ∈ fp, b ≠ s4.heap.objs.size ∧ b ∉ frs X.stack ∧ ∀ y c, cl.lookup y = some c → c ≠ b := fun b hb => by
      obtain ⟨o, e⟩ := hob b hb
      refine ⟨Nat.ne_of_lt (Heap.lt_size e), fun hm => ?_, fun y c e => ?_⟩
      · rcases List.mem_cons.mp (I3.stkSub b hm) with z | z
        · exact (f3 b hb).2.1 z
        · exact (f3 b hb).2.2.1 z
      · rw [← hcl] at e
        exact (f3 b hb).2.2.2.2.1 y c (NdefX.clo_cm (S.cells I3.ok) e)
    have hpz : ∀ p ∈ [(h'.objs.size, go)], ∀ b ∈ fp, p.1 ≠ b := fun p hp b hb z => by
      rw [List.mem_singleton.mp hp] at z
      obtain ⟨o, e⟩ := hob b hb
      have h1 := Heap.lt_size e
      have z' : h'.objs.size = b := z
      rw [← z', hsz] at h1
      exact Nat.lt_irrefl _ (Nat.lt_trans (Nat.lt_succ_self _) h1)
    have J0 : ∀ (G : Array GenState) (t : Nat), AllBare G → Inv (gx X scope (X.A.in1.in1.deeper (genEnv scope cl s4.heap.objs.size code builtinsNs X.env)) s4 H3 s4.heap.objs.size code cl fp) [(h'.objs.size, go)] (σ.set ix none) H3 { s4 with gens := G, toks := t, heap := h'.push go } := fun G t hG => by
      subst hcl
      exact inv_gx I3 S f3 hob hA hAf keep5 (hn'.push _) hG ha5 (by rw [hsz]; exact Nat.lt_succ_self _) hgc
    have back : ∀ {σ' : L2.St} {H' : Hp} {s5 s6 : Shared}, Inv (gx X scope (X.A.in1.in1.deeper (genEnv scope cl s4.heap.objs.size code builtinsNs X.env)) s4 H3 s4.heap.objs.size code cl fp) [(h'.objs.size, go)] σ' H' s5 → s6.os = s5.os → (∀ b o, s5.heap.get? b = some o → s6.heap.get? b = some o) → AllBare s6.gens → Inv X pins σ H' s6 := fun J5 ho hk hg => inv_back I3 f3 J5 ho hk hg
    have loop := seg_all (s := s4) (H := H3) (elt := elt) (iter := iter) (gpos := gpos) (B := X.A.in1.in1) (C := s4.heap.objs.size) (code := code) (cl := cl) (pz := [(h'.objs.size, go)]) S T over_deeper (he s4 H3 _ code cl fp) hW hpz hex
    refine call_function_tree F.kind_all F.plain_all F.entry_all (F.args_all1 _) ?_
    unfold Builtin.«all»
    refine wpAny_bind (m := oneArg "all" _) (wpAny_pure ?_)
    refine wpAny_bind (wpAny_pyIter_gen (hgi _ ha5) ?_)
    refine wpAny_pure ⟨plainId_quiet F.plain_all_loop _, ?_⟩
    refine all_loop (Rt := fun b s' => EP X pins σ Q (.bool b) s')
      (fun n s' => s'.heap.IsGen h'.objs.size s4.gens.size ∧ s'.heap.NoLimit ∧ AllBare s'.gens ∧ ∃ gs, s'.gens[s4.gens.size]? = some gs ∧
        ∀ s'', Again s' s'' → gs.Goes (model X.prog X.w) X.A.in1.in1 (RA (gx X scope (X.A.in1.in1.deeper (genEnv scope cl s4.heap.objs.size code builtinsNs X.env)) s4 H3 s4.heap.objs.size code cl fp) [(h'.objs.size, go)] Q) (YA (gx X scope (X.A.in1.in1.deeper (genEnv scope cl s4.heap.objs.size code builtinsNs X.env)) s4 H3 s4.heap.objs.size code cl fp) [(h'.objs.size, go)] Q) n (.send .none) s'')
      (fun b s' h => h) (fun n s' E hS => ?_) (m0 + 1) _ ?_
    · obtain ⟨g1, g2, g3, gs, g4, g5⟩ := hS
      have glt : s4.gens.size < s'.gens.size := (Array.getElem?_eq_some_iff.mp g4).1
      refine GenW.wpAny_gsz (n := s4.gens.size + 1) glt ?_
      refine wpAny_pyNext_genexpQ (P := fun _ _ s1 => ∃ σ' H', Inv (gx X scope (X.A.in1.in1.deeper (genEnv scope cl s4.heap.objs.size code builtinsNs X.env)) s4 H3 s4.heap.objs.size code cl fp) [(h'.objs.size, go)] σ' H' s1 ∧ Q (.bl true) H') hr.hd g2 hr.depth g1 g4
        (g5 _ ⟨rfl, rfl, bare_set g3 rfl⟩) (fun v s1 gs' hb hv => ?_) (fun s1 hp h6 hk6 => ?_)
      · intro hsz1
        obtain ⟨b, σ', H', rfl, J1, k1, k2⟩ := hv
        refine .inr ⟨b, rfl, fun hb1 => ?_, fun hb0 => ?_⟩
        · have k2' := k2 hb1
          cases n with
          | zero => exact absurd (k2' s1 ⟨rfl, rfl, J1.bare⟩) id
          | succ n =>
            refine ⟨n, Nat.lt_succ_self n, hgi _ (J1.pin (h'.objs.size, go) (List.mem_append_right _ (List.mem_singleton.mpr rfl))).1, J1.nolimit, bare_set J1.bare hb, gs', ?_, fun s'' z => ?_⟩
            · have hlt : s4.gens.size < s1.gens.size := by
                have z : s4.gens.size + 1 ≤ (s1.setGen s4.gens.size gs').gens.size := hsz1
                rw [GenW.setGen_size] at z
                exact z
              simp [Shared.setGen, hlt]
            · exact k2' s'' ⟨z.heap, z.os, z.bare⟩
        · exact ⟨.bl false, H', back J1 rfl (fun _ _ e => e) (bare_set J1.bare hb), rfl, k1 hb0⟩
      · intro _
        obtain ⟨σ', H', J1, qq⟩ := hp
        exact .inl ⟨rfl, .bl true, H', back J1 rfl hk6 (bare_set J1.bare rfl), rfl, qq⟩
    · refine ⟨hgi _ ha5, I3.nolimit.keeps keep5, AllBare.push I3.bare rfl, _, Array.getElem?_push_size .., fun s'' z => ⟨rfl, ?_⟩⟩
      have J1 := Inv.again (J0 _ (s4.toks + 1 + 1 + 1) (AllBare.push I3.bare rfl)) z
      have st5 : tn 0 s''.heap := by
        rw [z.heap]
        exact T.keep _ _ _ st4 fun b hb o e => keep5 b o e
      have fin := loop m0 (m0 + 1) 0 none H3 s'' s'' (Nat.lt_succ_self _) w0 J1 st5 (fun b hb => (f3 b hb).1)
      show Seg _ _ _ _ _ s'' _ ((compStart (.GeneratorExp elt [⟨.Name x px, iter, [], 0⟩] scope gpos) 0 (.ref it) .none (genEnv scope _ s4.heap.objs.size code builtinsNs X.env)).onRaise (leaving (genEnv scope _ s4.heap.objs.size code builtinsNs X.env))) [] s''
      subst hcl
      unfold compStart
      rw [Sem.onRaise_eq_wrap]
      show Seg _ _ _ _ _ s'' _ ((ask >>= _).wrap _ _ _ _) [] s''
      refine seg_bind_wrap (wpAny_askSetting ?_)
      split
      · exact seg_again rfl fin
      · first
          | exact seg_bind_wrap (wpAny_rule (seg_bind_wrap (wpAny_standAt (seg_bind_wrap (T.self _ 0 s'' _ _ st5 (seg_again rfl fin))))))
          | (refine seg_bind_wrap (wpAny_rule ?_); show Seg _ _ _ _ _ s'' _ ((standAt iter.pos >>= _).wrap _ _ _ _) [] s''; exact seg_bind_wrap (wpAny_standAt (seg_bind_wrap (T.self _ 0 s'' _ _ st5 (seg_again rfl fin)))))
  cases hf : codeAmong gpos ps.toList with
  | none =>
    refine wpAny_genexprCodeX hcode (cd.code hPs ht) (cd.tab hPs) hf fun c' h' tk hx hge hlt hco' _ htab' _ => ?_
    obtain ⟨o1, vs, f1, tf, fl, tg, inF, tx, tt, op, _, _, _, _, _, _, _, _, _, htr, _⟩ := hco'
    exact cont _ h' tk _ hx htab'.2 ⟨_, rfl⟩ htr
  | some cv =>
    refine wpAny_genexprCode_hit hcode (cd.code hPs ht) hf ?_
    exact cont cv s2.heap s2.toks ps (Heap.ExtBut.refl _ _) hPs ⟨#[], by simp⟩ ht
end
end GxA
namespace SS
open PySem PySem.Spec PyProof.Rows L2
section
variable {X : Cx}
/-- name = {k: v for ..} on one row, the name a local: the dict goes to the name ahead of the block's end -/
theorem ps_setDc {i : Nat} {y : Str} {py : Pos} {kx vx tg iter : Expr} {ifs : List Expr} {scope : Scope} {own : List (Str × Nat)} {pos spos : Pos} {wi : TI} {g : TG} {tt : TT} {tk tv : TE} (hc : X.calm = true) (hN : X.N.Nodup) (hy : X.N[i]? = some y) (hyl : X.env.scope.names.lookup y = some .local)
    (hsw : swapsWith (.DictComp kx vx [⟨tg, iter, ifs, 0⟩] scope pos) (some (.Name y py)) spos.line X.env = pure true) (hi : PI X tg iter wi) (ok : BlkOk X.N X.env.scope scope own)
    (hg : ∀ (s : Shared) (H : Hp) (B : Addr) (cl : List (Str × Addr)) (fp : List Addr), PG (X.blk s H scope (compEnvC scope cl B X.env) fp) tg g) (ht : ∀ (s : Shared) (H : Hp) (B : Addr) (cl : List (Str × Addr)) (fp : List Addr), PTs (X.blk s H scope (compEnvC scope cl B X.env) fp) ifs tt)
    (hk : ∀ (s : Shared) (H : Hp) (B : Addr) (cl : List (Str × Addr)) (fp : List Addr), PE (X.blk s H scope (compEnvC scope cl B X.env) fp) kx tk)
    (he : ∀ (s : Shared) (H : Hp) (B : Addr) (cl : List (Str × Addr)) (fp : List Addr), PE (X.blk s H scope (compEnvC scope cl B X.env) fp) vx tv) (hs : ∀ x, foldedSetIterable iter X.env x = pure x := by intro _; rfl) :
    PS X (.Assign [.Name y py] (.DictComp kx vx [⟨tg, iter, ifs, 0⟩] scope pos) spos) (tAsg (tDc wi g tt tk tv (own.map (·.2))) (gName i)) := by
  refine ⟨fun pins s σ H DD I hh => ?_⟩
  rw [exec_Assign_Name_used _ _ _ _ hsw]
  refine wpAny_bind (wpAny_standAt (wpAny_bind ?goal1))
  show wpAny _ X.A (do let _ ← comprehension (.DictComp kx vx [⟨tg, iter, ifs, 0⟩] scope pos) scope X.env (firstIterPos [⟨tg, iter, ifs, 0⟩] pos) newDict false (eval iter X.env) (some (assign (.Name y py) X.env))) _ _ s
  have hh : tDc wi g tt tk tv (own.map (·.2)) σ H (fun x H1 => gName i x σ H1 DD.nx) := hh
  refine wpAny_bind (thn (dc_core (Qf := fun _ s' => SP X pins DD .next s') hc hN I hi ok hg ht hk he hs hh fun L B s' m H' I' q hn f => ?goal2) fun _ s' hq => wpAny_pure (wpAny_pure hq))
  show wpAny _ _ (assign (.Name y py) X.env (.ref L)) _ _ _
  refine wpAny_assign_Name (store_ok2 (v := V.ref L) I' hN hy (.inl hyl) rfl (fun s2 I2 ⟨a, sb, ha⟩ => ?goal3) (.inr hyl))
  obtain ⟨f0, f1, _, f3, f4, f5⟩ := f
  have haB : B ≠ a := ha.elim (fun z => z ▸ f1) (fun z e => f4 y a z e.symm)
  exact ⟨m, hn.sameBut sb haB, fun h3 sb3 => ⟨_, H', I2.turned (t' := s2.toks) (fun b o hb e => (sb3.2 b hb).trans e) f0 f1 f3 f4 f5, q⟩⟩
theorem swD_true {kx vx : Expr} {gs : List Comprehension} {scope : Scope} {pos py : Pos} {y : Str} {l : Nat} {env : Env} (hk : env.scope.kind = .function) (hy : env.scope.names.lookup y = some .local) (hl : (py.line == pos.line) = true)
    (ha : (scope.names.any fun (n, k) => n == y && (k == .local || k == .cell)) = false) : swapsWith (.DictComp kx vx gs scope pos) (some (.Name y py)) l env = pure true := by
  have kind1 : env.kindOf y = some .local := hy
  have kind2 : env.blockKind = .function := by unfold Env.blockKind; rw [hk]; rfl
  unfold swapsWith
  simp only [kind2, kind1, ha, Expr.pos, hl]; rfl
end
end SS
namespace SS
open PySem PySem.Spec PyProof.Rows L2
open MeetsSeq MeetsSeq2 MeetsSeq3 SeqRoads2 in
theorem lstNe_loop {P : Program} {w : World} (l b : Addr) (it it2 : Array Value) (n n2 : Nat) (dd dd2 : Option Addr) (sl sl2 : Array (Option Value)) (hz : it.size = it2.size) (k : Nat) :
    ∀ i : Nat, it.size - i = k → MeetsIn P w (Builtin.«list.__eq__.loop» ⟨[.ref l, .ref b, rawInt i, rawInt 3], []⟩)
      (fun A R s => s.heap.get? l = some { cls := .type "list", dict := dd, data := .seq it n, slots := sl } ∧ s.heap.get? b = some { cls := .type "list", dict := dd2, data := .seq it2 n2, slots := sl2 } ∧
        (∀ j (h1 : j < it.size) (h2 : j < it2.size), SeqAt.EqP P w A.in1 s it[j] it2[j] true) ∧ R (.ok (.ret (.bool false))) s) := by
  induction k with
  | zero =>
    intro i hk A R s h
    obtain ⟨hp, g, d, tk, os⟩ := s
    obtain ⟨hl, hb, he, h⟩ := h
    wp_walk using AutoSeq1.wpAny_loadPart' hl, AutoSeq1.wpAny_loadPart' hb
    have a1 : it[((i : Nat) : Int).toNat]? = none := by simp; omega
    have a2 : it2[((i : Nat) : Int).toNat]? = none := by simp; omega
    rw [a1, a2]
    wp_walk using AutoSeq1.wpAny_loadPart' hl, AutoSeq1.wpAny_loadPart' hb
    show R (.ok (.ret (.bool (it.size != it2.size)))) _
    rw [hz]
    simpa using h
  | succ k ih =>
    intro i hk A R s h
    obtain ⟨hp, g, d, tk, os⟩ := s
    obtain ⟨hl, hb, he, h⟩ := h
    wp_walk using AutoSeq1.wpAny_loadPart' hl, AutoSeq1.wpAny_loadPart' hb
    have b1 : i < it.size := by omega
    have b2 : i < it2.size := by omega
    have a1 : it[((i : Nat) : Int).toNat]? = some it[i] := by simp [b1]
    have a2 : it2[((i : Nat) : Int).toNat]? = some it2[i] := by simp [b2]
    have hc : ((i : Int) + 1) = ((i + 1 : Nat) : Int) := by omega
    rw [a1, a2]
    refine wpAny_bind (he i b1 b2 _ _ ?_)
    wp_walk
    rw [hc]
    exact ⟨plainId_quiet plain_eq_loop _, codeAny_builtin entry_eq_loop (by
      rw [Around.under_plainId plain_eq_loop _]; exact ih (i + 1) (by omega) A R _ ⟨hl, hb, he, h⟩)⟩
open MeetsSeq MeetsSeq2 MeetsSeq3 SeqRoads2 in
theorem lstNe_in {P : Program} {w : World} (l b : Addr) (it it2 : Array Value) (n n2 : Nat) (dd dd2 : Option Addr) (sl sl2 : Array (Option Value)) (hz : it.size = it2.size) :
    MeetsIn P w (Builtin.«list.__ne__» ⟨[.ref l, .ref b], []⟩)
      (fun A R s => s.heap.get? l = some { cls := .type "list", dict := dd, data := .seq it n, slots := sl } ∧ s.heap.get? b = some { cls := .type "list", dict := dd2, data := .seq it2 n2, slots := sl2 } ∧
        (∀ j (h1 : j < it.size) (h2 : j < it2.size), SeqAt.EqP P w A.in1 s it[j] it2[j] true) ∧ R (.ok (.ret (.bool false))) s) := by
  intro A R s h
  obtain ⟨hp, g, d, tk, os⟩ := s
  obtain ⟨hl, hb, he, h⟩ := h
  have f3 := AutoSeq1.sub_list_list
  have nz : ¬ (it.size != it2.size) = true := by simp [hz]
  wp_walk using AutoSeq1.wpAny_loadPart' hl, AutoSeq1.wpAny_loadPart' hb
  exact ⟨plainId_quiet plain_eq_loop _, codeAny_builtin entry_eq_loop (by
    rw [Around.under_plainId plain_eq_loop _]; exact lstNe_loop l b it it2 n n2 dd dd2 sl sl2 hz _ 0 rfl A R _ ⟨hl, hb, he, h⟩)⟩
section
variable {X : Cx}
/-- [..] != [..], two lists that are equal -/
def rNeXL (K : PySem.W.Frag) : R2 := fun x y H Q => ∃ (n : Nat) (p q : Addr) (xs ys : List V), n ≤ 50 ∧ x = .ref p ∧ y = .ref q ∧ SqL K H p xs ∧ SqL K H q ys ∧ Paired (XV K H n) xs ys ∧ Q (.bl false) H
theorem op_neXL (hu : X.A.units + 64 < cLine) : OpR X (compareOp .NotEq) (rNeXL X.K) := by
  intro pins s σ H x y v u Q I rx ry h
  obtain ⟨n, p, r, xs, ys, hn, rfl, rfl, h1, h2, hp, q⟩ := h
  obtain rfl : v = Value.ref p := rx
  obtain rfl : u = Value.ref r := ry
  obtain ⟨us, r1, p1, _⟩ := I.list h1
  obtain ⟨ws, r2, p2, _⟩ := I.list h2
  obtain ⟨⟨c1, d1, e1, g1⟩, o1, o2, n1, o3⟩ := id p1.isList
  obtain ⟨⟨c2, d2, e2, g2⟩, t1, t2, n2, t3⟩ := id p2.isList
  have o2' : c1 = .type "list" := o2
  have o3' : e1 = .seq us.toArray n1 := o3
  have t2' : c2 = .type "list" := t2
  have t3' : e2 = .seq ws.toArray n2 := t3
  subst o2' o3' t2' t3'
  have hz : us.toArray.size = ws.toArray.size := by
    rw [List.size_toArray, List.size_toArray, ← r1.length, ← r2.length]
    exact Paired.length hp
  have ta : s.TypeIs (.ref p) "list" := ⟨_, o1, rfl⟩
  have tb : s.TypeIs (.ref r) "list" := ⟨_, t1, rfl⟩
  refine wpAny_richCompare_same_room (op := .NotEq) ta tb F.slot_list_ne (call_meetsIn F.slot_list_ne ta F.entry_list_ne (F.args_list_ne_2 _ _) (lstNe_in p r us.toArray ws.toArray n1 n2 d1 d2 g1 g2 hz)
    ⟨o1, t1, fun j j1 j2 => ?_, ⟨(fun z => nomatch z), ⟨.bl false, H, I, rfl, q⟩⟩⟩) (by omega)
  have k := items_run (P := X.prog) (w := X.w) (A := X.A.in1) (s := s) (F := XV X.K H n) (fun x y v u hd rv ru => xv_run I n _ (by show X.A.units + 1 + n < cLine; omega) _ _ _ _ hd rv ru) hp r1 r2 j (by simpa using j1) (by simpa using j2)
  simpa using k
end
end SS
namespace SS
open PySem PySem.Spec PyProof.Rows L2
/-! ### the least of texts -/
theorem nltT : ∀ (a b c : List Nat), ltCps b a = false → ltCps c b = false → ltCps c a = false
  | [], _, [], _, _ => rfl
  | [], [], _ :: _, _, _ => rfl
  | [], _ :: _, _ :: _, _, _ => rfl
  | a :: as, [], c, h, _ => by simp [ltCps] at h
  | a :: as, b :: bs, [], _, h => by simp [ltCps] at h
  | a :: as, b :: bs, c :: cs, h1, h2 => by
    have ih := nltT as bs cs
    simp only [ltCps, Bool.or_eq_false_iff, decide_eq_false_iff_not, Bool.and_eq_false_imp, beq_iff_eq] at h1 h2 ⊢
    refine ⟨by omega, fun e => ?_⟩
    have e1 : b = a := by omega
    have e2 : c = b := by omega
    exact ih (h1.2 e1) (h2.2 e2)
theorem nltA : ∀ (a b : List Nat), ltCps b a = false → ltCps a b = false → a = b
  | [], [], _, _ => rfl
  | [], b :: bs, _, h => by simp [ltCps] at h
  | a :: as, [], h, _ => by simp [ltCps] at h
  | a :: as, b :: bs, h1, h2 => by
    have ih := nltA as bs
    simp only [ltCps, Bool.or_eq_false_iff, decide_eq_false_iff_not, Bool.and_eq_false_imp, beq_iff_eq] at h1 h2
    have e : a = b := by omega
    rw [e, ih (h1.2 e.symm) (h2.2 e)]
theorem ltIrr : ∀ (a : List Nat), ltCps a a = false
  | [] => rfl
  | a :: as => by simp [ltCps, ltIrr as]
theorem ltNot : ∀ (a b : List Nat), ltCps a b = true → ltCps b a = false
  | [], [], h => by simp [ltCps] at h
  | [], _ :: _, _ => rfl
  | _ :: _, [], h => by simp [ltCps] at h
  | a :: as, b :: bs, h => by
    have ih := ltNot as bs
    simp only [ltCps, Bool.or_eq_true, decide_eq_true_eq, Bool.and_eq_true, beq_iff_eq, Bool.or_eq_false_iff, decide_eq_false_iff_not, Bool.and_eq_false_imp] at h ⊢
    rcases h with h | h
    · exact ⟨by omega, fun e => by omega⟩
    · exact ⟨by omega, fun _ => ih h.2⟩
def leS (a b : Str) : Prop := ltCps b.cps.toList a.cps.toList = false
theorem leS_anti {a b : Str} (h1 : leS a b) (h2 : leS b a) : a = b := by
  have e := nltA _ _ h1 h2
  cases a
  cases b
  congr 1
  exact Array.toList_inj.mp e
theorem best_txt (t : Nat → Str) : ∀ k, argBest (fun i j => ltCps (t i).cps.toList (t j).cps.toList) k ≤ k ∧ ∀ j, j ≤ k → leS (t (argBest (fun i j => ltCps (t i).cps.toList (t j).cps.toList) k)) (t j)
  | 0 => ⟨Nat.le_refl _, fun j hj => by
      rw [show j = 0 by omega]
      exact ltIrr _⟩
  | k + 1 => by
    obtain ⟨a, b⟩ := best_txt t k
    simp only [argBest]
    split
    · rename_i c
      refine ⟨Nat.le_refl _, fun j hj => ?_⟩
      rcases Nat.lt_or_ge j (k + 1) with z | z
      · exact nltT _ _ _ (ltNot _ _ c) (b j (by omega))
      · rw [show j = k + 1 by omega]
        exact ltIrr _
    · rename_i c
      refine ⟨by omega, fun j hj => ?_⟩
      rcases Nat.lt_or_ge j (k + 1) with z | z
      · exact b j (by omega)
      · rw [show j = k + 1 by omega]
        exact Bool.eq_false_iff.mpr c
section
variable {X : Cx}
/-- min(d), d a dict whose keys are texts -/
def rMinT : List V → Hp → VK → Prop := fun vs H Q => ∃ (a : Addr) (kvs : List (Key × V)) (ts : List Str), vs = [V.ref a] ∧ H a = some (.dK kvs) ∧ kvs.map (·.1) = ts.map Sum.inr ∧ ts ≠ [] ∧ ∀ m ∈ ts, (∀ j ∈ ts, leS m j) → Q (.str m) H
theorem cr_minT (hc : X.calm = true) : CallR X (.builtin "min") rMinT := by
  rintro pins s σ H _ us Q I r ⟨a, kvs, ts, rfl, ha, hk, ne, q⟩
  obtain ⟨_, sysOk, es, rel, dof⟩ := dk_of I.hok ha
  obtain ⟨ep, at'⟩ := dof.dictAt
  have isz : a < s.heap.objs.size := by
    obtain ⟨_, _, z, _⟩ := id at'
    exact Heap.lt_size z
  have ks : es.map (·.1) = ts.map Sum.inr := by rw [← KV.keys rel, hk]
  have ln : es.length = ts.length := by simpa using congrArg List.length ks
  have shape : ∀ (i : Nat) (v : Value), (∃ k x, es[i]? = some (k, x) ∧ (mixKind X.prog X.w).is k v = true) → ∃ u, v = Value.str (ts.getD i "") u := by
    rintro i v ⟨k, x, e1, e2⟩
    have e3 : (ts.map Sum.inr)[i]? = some k := by
      rw [← ks, List.getElem?_map, e1]
      rfl
    rw [List.getElem?_map] at e3
    cases e4 : ts[i]? with
    | none =>
      rw [e4] at e3
      cases e3
    | some t =>
      rw [e4] at e3
      cases e3
      have e2 : keyIs (.inr t) v = true := e2
      rcases keyIs_shape e2 with ⟨_, _, z, _⟩ | ⟨y, u, z, e5⟩
      · cases z
      · cases z
        refine ⟨u, ?_⟩
        rw [e5, List.getD_eq_getElem?_getD, e4]
        rfl
  have cmp : CmpOf X.prog X.w X.A.in1 .Lt (fun i v => ∃ k x, es[i]? = some (k, x) ∧ (mixKind X.prog X.w).is k v = true) (fun i j => ltCps (ts.getD i "").cps.toList (ts.getD j "").cps.toList) := by
    intro i j vi vj s' Q' E' hi hj hQ
    obtain ⟨u, rfl⟩ := shape i vi hi
    obtain ⟨u', rfl⟩ := shape j vj hj
    refine lt_str ?_
    rw [show (decide ((ts.getD i "").cps.toList < (ts.getD j "").cps.toList)) = ltCps (ts.getD i "").cps.toList (ts.getD j "").cps.toList from (ltCps_eq _ _).symm]
    exact hQ
  obtain ⟨b1, b2⟩ := best_txt (fun i => ts.getD i "") (es.length - 1)
  have pos : 0 < ts.length := List.length_pos_iff.mpr ne
  rw [Vals.ref1 r]
  refine call_min_walk (wpAny_pyIter_dict (knd := mixKind X.prog X.w) sysOk at' ⟨_, _, _, _, _, _, _, rfl, Walks.dictKeys (knd := mixKind X.prog X.w) (A := X.A.in1) (I.ok.hd hc) s.heap.objs.size a (Nat.ne_of_lt isz) es ep,
    ⟨⟨_, Heap.get?_push_size _ rfl, rfl, rfl⟩, at'.keep fun b u e => Heap.get?_push_of_some _ e⟩, fun b hb => ?_, by omega, cmp, fun v h' tk hP keep => ?_⟩)
  · show b < (s.heap.push _).objs.size
    rw [Heap.size_push]
    rcases List.mem_cons.mp hb with z | z
    · rw [z]
      exact Nat.lt_succ_self _
    · rw [List.mem_singleton.mp z]
      exact Nat.lt_succ_of_lt isz
  · obtain ⟨u, rfl⟩ := shape _ v hP
    refine ⟨.str _, H, I.kept (t' := tk) fun b o e => keep b o (fun z => ?_) (Heap.get?_push_of_some _ e), ⟨u, rfl⟩, q _ ?_ fun t ht => ?_⟩
    · rw [List.mem_singleton.mp z] at e
      exact absurd (Heap.lt_size e) (Nat.lt_irrefl _)
    · have lt : argBest (fun i j => ltCps (ts.getD i "").cps.toList (ts.getD j "").cps.toList) (es.length - 1) < ts.length := by omega
      rw [List.getD_eq_getElem?_getD, List.getElem?_eq_getElem lt]
      exact List.getElem_mem lt
    · obtain ⟨i, il, e⟩ := List.mem_iff_getElem.mp ht
      have e2 : ts.getD i "" = t := by
        rw [List.getD_eq_getElem?_getD, List.getElem?_eq_getElem il, ← e]
        rfl
      rw [← e2]
      exact b2 i (by omega)
end
end SS
namespace SS
open PySem PySem.Spec PyProof.Rows L2
def topS (i : Nat) : Stmt := PySem.Challenge.pw_scopestore_k80_same_rows.main.body.getD i (.Pass ⟨0, 0, 0, 0⟩)
abbrev sCd : Stmt := topS 9
abbrev sFo : Stmt := topS 10
abbrev sAre : Stmt := topS 11
abbrev sPlus : Stmt := topS 12
abbrev sTimes : Stmt := topS 13
abbrev sLess : Stmt := topS 14
abbrev sWn : Stmt := topS 16
abbrev sSumTimes : Stmt := topS 17
abbrev sWorth : Stmt := topS 18
abbrev sKeeps : Stmt := topS 20
abbrev sRowTimes : Stmt := topS 23
abbrev sMaker : Stmt := topS 24
abbrev sPlain : Stmt := topS 25
abbrev sSameRow : Stmt := topS 26
abbrev sFresh : Stmt := topS 28
abbrev sMixed : Stmt := topS 29
abbrev sFill : Stmt := topS 30
abbrev sTake : Stmt := topS 31
abbrev sSh : Stmt := topS 32
abbrev sFrac : Stmt := topS 33
abbrev sLPlus : Stmt := topS 34
abbrev sLTimes : Stmt := topS 35
abbrev sLLess : Stmt := topS 36
abbrev sLWorth : Stmt := topS 37
abbrev sLKeeps : Stmt := topS 38
abbrev sAdd : Stmt := topS 39
abbrev sSname : Stmt := topS 40
abbrev sNames : Stmt := topS 41
abbrev sNumber : Stmt := topS 42
abbrev sSsum : Stmt := topS 43
abbrev sShort : Stmt := topS 44
abbrev sFar : Stmt := topS 45
abbrev sAnyRow : Stmt := topS 46
abbrev sLPlain : Stmt := topS 47
abbrev sOther : Stmt := topS 48
abbrev sBounded : Stmt := topS 49
abbrev sLaw : Stmt := topS 50
end SS
namespace SS
open PySem PySem.Spec PyProof.Rows L2
section
variable {P : Program} {w : World} {K : PySem.W.Frag} {mg : Str → Option Value} {base : Heap}
/-! ### the greatest common divisor -/
def spGcd : Sp := fun vs H Q _ => ∃ a b : Int, vs = [.int a, .int b] ∧ Q (.int ((Int.gcd a b : Nat) : Int)) H
theorem scCd : FnScope ["a", "b"] ["a", "b"] (defScope sCd) := ⟨rfl, rfl, rfl, by decide +kernel, rfl, by decide +kernel, by decide +kernel⟩
theorem ok_cd {f : Addr} {fd : FuncData} {k : Nat} (F : Fun K "common_divisor" "common_divisor" sCd f fd) (ma : mg "abs" = none) : FnOk P w K mg base CX0 (k + 1) f fd ["a", "b"] spGcd := by
  refine F.ok scCd (fun vs H Q E h => ?_) (fun cdv A outer s H vs Q E hr h => ?_)
  · obtain ⟨a, b, rfl, _⟩ := h
    rfl
  · obtain ⟨a, b, rfl, q⟩ := h
    refine ⟨_, pss_cons (ps_par (i := 0) (j := 1) rfl scCd.nd rfl rfl (by decide) rfl rfl
        (pa_cons (pe_callB call_abs (by rfl) ma boot_abs (pa_cons (pv 0) pa_nil)) (pa_cons (pe_callB call_abs (by rfl) ma boot_abs (pa_cons (pv 1) pa_nil)) pa_nil)) rfl)
      (pss_cons (ps_while PassesOwn.never (pt_cmpR op_gt (pv 1) pe_int (nomark _))
        (pss_one (ps_par (i := 0) (j := 1) rfl scCd.nd rfl rfl (by decide) rfl rfl (pa_cons (pv 1) (pa_cons (pe_op op_mod (pv 0) (pv 1)) pa_nil)) rfl)))
      (pss_one (ps_ret (pv 0)))), ?_⟩
    refine ⟨_, rfl, a, rfl, _, rfl, b, rfl, _, _, rfl, ?_⟩
    refine ⟨fun m σ H' => ∃ x y : Int, σ = [some (.int x), some (.int y)] ∧ H' = H ∧ 0 ≤ x ∧ 0 ≤ y ∧ Int.gcd x y = Int.gcd a b ∧ m = y.toNat,
      ⟨_, _, _, rfl, rfl, by split <;> omega, by split <;> omega, gcd_abs a b, rfl⟩, fun m σ H' hW => ?_⟩
    obtain ⟨x, y, rfl, rfl, hx, hy, hg, rfl⟩ := hW
    refine ⟨_, rfl, _, _, rfl, rfl, _, rfl, ite2 (fun e => ?_) (fun e => ?_)⟩
    · have e' : 0 < y := of_decide_eq_true e
      refine ⟨fun σ' H1 => ∃ x' y' : Int, σ' = [some (.int x'), some (.int y')] ∧ H1 = H' ∧ 0 ≤ x' ∧ 0 ≤ y' ∧ Int.gcd x' y' = Int.gcd a b ∧ y' < y, fun σ' H1 hN => ?_, ?_⟩
      · obtain ⟨x', y', r1, r2, r3, r4, r5, r6⟩ := hN
        exact ⟨y'.toNat, by omega, x', y', r1, r2, r3, r4, r5, rfl⟩
      · refine ⟨_, rfl, _, rfl, _, rfl, x, y, rfl, rfl, e', _, _, rfl, y, x % y, rfl, rfl, hy, Int.emod_nonneg _ (by omega), ?_, Int.emod_lt_of_pos _ e'⟩
        rw [gcd_turn hx e', hg]
    · have e' : ¬ 0 < y := fun z => e (decide_eq_true z)
      have y0 : y = 0 := by omega
      subst y0
      refine ⟨_, rfl, ?_⟩
      rw [← hg, gcd_end x hx] at q
      exact q
theorem scSh : FnScope ["_law_one", "_law_other"] ["_law_one", "_law_other"] (defScope sSh) := ⟨rfl, rfl, rfl, by decide +kernel, rfl, by decide +kernel, by decide +kernel⟩
theorem ok_sh {f : Addr} {fd : FuncData} {k : Nat} (F : Fun K "_law_shared" "_law_shared" sSh f fd) (ma : mg "abs" = none) : FnOk P w K mg base CX0 (k + 1) f fd ["_law_one", "_law_other"] spGcd := by
  refine F.ok scSh (fun vs H Q E h => ?_) (fun cdv A outer s H vs Q E hr h => ?_)
  · obtain ⟨a, b, rfl, _⟩ := h
    rfl
  · obtain ⟨a, b, rfl, q⟩ := h
    refine ⟨_, pss_cons (ps_par (i := 0) (j := 1) rfl scSh.nd rfl rfl (by decide) rfl rfl
        (pa_cons (pe_callB call_abs (by rfl) ma boot_abs (pa_cons (pv 0) pa_nil)) (pa_cons (pe_callB call_abs (by rfl) ma boot_abs (pa_cons (pv 1) pa_nil)) pa_nil)) rfl)
      (pss_cons (ps_while PassesOwn.never (pt_cmpR op_gt (pv 1) pe_int (nomark _))
        (pss_one (ps_par (i := 0) (j := 1) rfl scSh.nd rfl rfl (by decide) rfl rfl (pa_cons (pv 1) (pa_cons (pe_op op_mod (pv 0) (pv 1)) pa_nil)) rfl)))
      (pss_one (ps_ret (pv 0)))), ?_⟩
    refine ⟨_, rfl, a, rfl, _, rfl, b, rfl, _, _, rfl, ?_⟩
    refine ⟨fun m σ H' => ∃ x y : Int, σ = [some (.int x), some (.int y)] ∧ H' = H ∧ 0 ≤ x ∧ 0 ≤ y ∧ Int.gcd x y = Int.gcd a b ∧ m = y.toNat,
      ⟨_, _, _, rfl, rfl, by split <;> omega, by split <;> omega, gcd_abs a b, rfl⟩, fun m σ H' hW => ?_⟩
    obtain ⟨x, y, rfl, rfl, hx, hy, hg, rfl⟩ := hW
    refine ⟨_, rfl, _, _, rfl, rfl, _, rfl, ite2 (fun e => ?_) (fun e => ?_)⟩
    · have e' : 0 < y := of_decide_eq_true e
      refine ⟨fun σ' H1 => ∃ x' y' : Int, σ' = [some (.int x'), some (.int y')] ∧ H1 = H' ∧ 0 ≤ x' ∧ 0 ≤ y' ∧ Int.gcd x' y' = Int.gcd a b ∧ y' < y, fun σ' H1 hN => ?_, ?_⟩
      · obtain ⟨x', y', r1, r2, r3, r4, r5, r6⟩ := hN
        exact ⟨y'.toNat, by omega, x', y', r1, r2, r3, r4, r5, rfl⟩
      · refine ⟨_, rfl, _, rfl, _, rfl, x, y, rfl, rfl, e', _, _, rfl, y, x % y, rfl, rfl, hy, Int.emod_nonneg _ (by omega), ?_, Int.emod_lt_of_pos _ e'⟩
        rw [gcd_turn hx e', hg]
    · have e' : ¬ 0 < y := fun z => e (decide_eq_true z)
      have y0 : y = 0 := by omega
      subst y0
      refine ⟨_, rfl, ?_⟩
      rw [← hg, gcd_end x hx] at q
      exact q
end
end SS

namespace SS
open PySem PySem.Spec PyProof.Rows L2
/-- what the top says of an own class of errors, straight or not under ValueError, at C -/
structure ExT (K : PySem.W.Frag) (mg : Str → Option Value) (x : Str) (C : Addr) : Prop where
  gC : mg x = some (.ref C)
  xC : PySem.W.excIn K C [.type "ValueError", .type "Exception", .type "BaseException", .type "object"] "ValueError.__new__" = true
  kC : PySem.W.keepIn K (.ref C) = true
  bC : PySem.W.subIn K (.ref C) (.type "BaseException") = some true
  tC : PySem.W.typeIn K (.ref C) = some (.type "type")
theorem logOf {b : Int} {n : Nat} (h0 : 0 < n) (h : b.natAbs < 2 ^ n) (hn : n ≤ 9000) : b.natAbs.log2 < 9000 := Nat.lt_of_lt_of_le (PySem.Flt.log2_lt_of h0 h) hn
theorem sgd_ok {t b : Int} (h : b ≠ 0) (hb : b.natAbs < 2 ^ 8000) (i : Int) : CDivG i (sgd t b) := by
  refine ⟨sgd_ne h, logOf (n := 8000) (by decide) ?_ (by decide)⟩
  rw [sgd_abs]
  refine Nat.lt_of_le_of_lt (Nat.le_of_dvd (Int.natAbs_pos.mpr h) ?_) hb
  exact Nat.gcd_dvd_right ..
section
variable {P : Program} {w : World} {K : PySem.W.Frag} {mg : Str → Option Value} {base : Heap}
/-! ### fraction_of; the law's own _law_frac -/
def spFo (C : Addr) : Sp := fun vs H Q E => ∃ t b : Int, vs = [.int t, .int b] ∧ (b = 0 → E (.ref C) none H) ∧
  (b ≠ 0 → b.natAbs < 2 ^ 8000 ∧ ∀ p, H p = none → Q (.ref p) (upd H p (.tup [.int (fr1 t b), .int (fr2 t b)])))
theorem scFo : FnScope ["top", "bottom", "divisor"] ["top", "bottom"] (defScope sFo) := ⟨rfl, rfl, rfl, by decide +kernel, rfl, by decide +kernel, by decide +kernel⟩
theorem ok_fo {f C : Addr} {fd : FuncData} (F : FunD K "fraction_of" "fraction_of" (defArgs sFo) (defBody sFo) (defScope sFo) [.int 1] [] f fd) (T : ExT K mg "NoFraction" C)
    (cd : Cl P w K mg base CX0 1 "common_divisor" spGcd []) : FnOk P w K mg base (L2.CX P w) 2 f fd ["top", "bottom"] (spFo C) := by
  refine F.ok scFo (fun vs H Q E h => ?_) (fun cdv A outer s H vs Q E hr h => ?_)
  · obtain ⟨a, b, rfl, _⟩ := h
    rfl
  · obtain ⟨t, b, rfl, q0, q1⟩ := h
    refine ⟨_, pss_cons (ps_if (pt_cmpR op_eq (pv 1) pe_int (nomark _))
        (pss_one (ps_raise rfl (takes_of rfl rfl rfl rfl) (pmk_own PySem.F.excBase_ValueError T.xC T.gC T.kC (raises_own T.bC T.tC) (by exact rfl)))) pss_nil)
      (pss_cons (ps_set (i := 2) scFo.nd rfl (.inl rfl) (pc0 cd hr (by decide) (pa_cons (pv 0) (pa_cons (pv 1) pa_nil))))
      (pss_cons (ps_if (pt_cmpR op_lt (pv 1) pe_int (nomark _)) (pss_one (ps_set (i := 2) scFo.nd rfl (.inl rfl) (pe_un un_neg (pv 2)))) pss_nil)
      (pss_one (ps_ret (pe_tup (pa_cons (pe_op op_fdivG (pv 0) (pv 2)) (pa_cons (pe_op op_fdivG (pv 1) (pv 2)) pa_nil))))))), ?_⟩
    refine ⟨_, rfl, rfl, _, rfl, ite2 (fun e => ?_) (fun e => ?_)⟩
    · exact q0 (V.int.inj (of_decide_eq_true e))
    · have h0 : b ≠ 0 := fun z => e (by rw [z]; exact decide_eq_true rfl)
      obtain ⟨hb, q⟩ := q1 h0
      refine ⟨_, rfl, _, rfl, t, b, rfl, ?_⟩
      refine ⟨_, rfl, _, _, rfl, rfl, _, rfl, ite2 (fun e2 => ?_) (fun e2 => ?_)⟩
      · have e3 : sgd t b = -((Int.gcd t b : Nat) : Int) := if_pos (of_decide_eq_true e2)
        refine ⟨_, rfl, _, rfl, ?_⟩
        refine ⟨_, rfl, _, rfl, t, sgd t b, rfl, by rw [e3], sgd_ok h0 hb t, _, rfl, _, rfl, b, sgd t b, rfl, by rw [e3], sgd_ok h0 hb b, small2, q⟩
      · have e3 : sgd t b = ((Int.gcd t b : Nat) : Int) := if_neg fun z => e2 (decide_eq_true z)
        refine ⟨_, rfl, _, rfl, t, sgd t b, rfl, by rw [e3], sgd_ok h0 hb t, _, rfl, _, rfl, b, sgd t b, rfl, by rw [e3], sgd_ok h0 hb b, small2, q⟩
end
end SS

namespace SS
open PySem PySem.Spec PyProof.Rows L2
section
variable {P : Program} {w : World} {K : PySem.W.Frag} {mg : Str → Option Value} {base : Heap}
def spFrac : Sp := fun vs H Q _ => ∃ t b : Int, vs = [.int t, .int b] ∧ b ≠ 0 ∧ b.natAbs < 2 ^ 8000 ∧ ∀ p, H p = none → Q (.ref p) (upd H p (.tup [.int (fr1 t b), .int (fr2 t b)]))
theorem scFrac : FnScope ["_law_top", "_law_bottom", "_law_by"] ["_law_top", "_law_bottom"] (defScope sFrac) := ⟨rfl, rfl, rfl, by decide +kernel, rfl, by decide +kernel, by decide +kernel⟩
theorem ok_frac {f : Addr} {fd : FuncData} (F : Fun K "_law_frac" "_law_frac" sFrac f fd) (sh : Cl P w K mg base CX0 1 "_law_shared" spGcd []) : FnOk P w K mg base CX0 2 f fd ["_law_top", "_law_bottom"] spFrac := by
  refine F.ok scFrac (fun vs H Q E h => ?_) (fun cdv A outer s H vs Q E hr h => ?_)
  · obtain ⟨a, b, rfl, _⟩ := h
    rfl
  · obtain ⟨t, b, rfl, h0, hb, q⟩ := h
    refine ⟨_, pss_cons (ps_set (i := 2) scFrac.nd rfl (.inl rfl) (pc0 sh hr (by decide) (pa_cons (pv 0) (pa_cons (pv 1) pa_nil))))
      (pss_cons (ps_if (pt_cmpR op_lt (pv 1) pe_int (nomark _)) (pss_one (ps_set (i := 2) scFrac.nd rfl (.inl rfl) (pe_op op_sub pe_int (pv 2)))) pss_nil)
      (pss_one (ps_ret (pe_tup (pa_cons (pe_op op_fdivG (pv 0) (pv 2)) (pa_cons (pe_op op_fdivG (pv 1) (pv 2)) pa_nil)))))), ?_⟩
    refine ⟨_, rfl, _, rfl, t, b, rfl, ?_⟩
    refine ⟨_, rfl, _, _, rfl, rfl, _, rfl, ite2 (fun e2 => ?_) (fun e2 => ?_)⟩
    · have e3 : sgd t b = -((Int.gcd t b : Nat) : Int) := if_pos (of_decide_eq_true e2)
      refine ⟨_, rfl, _, _, rfl, rfl, ?_⟩
      refine ⟨_, rfl, _, rfl, t, sgd t b, rfl, by rw [e3]; exact congrArg V.int (Int.zero_sub _), sgd_ok h0 hb t, _, rfl, _, rfl, b, sgd t b, rfl, by rw [e3]; exact congrArg V.int (Int.zero_sub _), sgd_ok h0 hb b, small2, q⟩
    · have e3 : sgd t b = ((Int.gcd t b : Nat) : Int) := if_neg fun z => e2 (decide_eq_true z)
      refine ⟨_, rfl, _, rfl, t, sgd t b, rfl, by rw [e3], sgd_ok h0 hb t, _, rfl, _, rfl, b, sgd t b, rfl, by rw [e3], sgd_ok h0 hb b, small2, q⟩
end
end SS

namespace SS
open PySem PySem.Spec PyProof.Rows L2
section
variable {P : Program} {w : World} {K : PySem.W.Frag} {mg : Str → Option Value} {base : Heap}
/-! ### the law's draws: fresh, mixed, fill, take -/
def spFresh (K : PySem.W.Frag) : Sp := fun vs H Q _ => ∃ (a : Addr) (ns : List Int), vs = [.ref a] ∧ SqL K H a (ns.map V.int) ∧
  ∀ H' st c, Same H H' → H st = none → H c = none → StA st c H' → Q (.ref st) H'
theorem scFresh : FnScope ["_law_script"] ["_law_script"] (defScope sFresh) := ⟨rfl, rfl, rfl, by decide +kernel, rfl, by decide +kernel, by decide +kernel⟩
theorem cut63 (xs : List V) : (cutV xs none (some 63)) = xs.take 63 := by
  unfold cutV
  rw [HT.sIx_none, show HT.sIx xs.length xs.length (some 63) = min 63 xs.length from HT.sIx_nat xs.length xs.length 63]
  show List.take (min 63 xs.length - 0) (xs.drop 0) = xs.take 63
  rw [List.drop_zero, Nat.sub_zero]
  by_cases h : xs.length ≤ 63
  · rw [Nat.min_eq_right h, List.take_length, List.take_of_length_le h]
  · rw [Nat.min_eq_left (by omega)]
theorem ok_fresh {f : Addr} {fd : FuncData} {k : Nat} (F : Fun K "_law_fresh" "_law_fresh" sFresh f fd) : FnOk P w K mg base CX0 (k + 1) f fd ["_law_script"] (spFresh K) := by
  refine F.ok scFresh (fun vs H Q E h => ?_) (fun cdv A outer s H vs Q E hr h => ?_)
  · obtain ⟨a, ns, rfl, _⟩ := h
    rfl
  · obtain ⟨a, ns, rfl, hS, q⟩ := h
    refine ⟨_, pss_one (ps_ret (pe_lst (pa_cons (pe_slice sl_list (pv 0) po_none (po_some pe_int)) (pa_cons pe_int (pa_cons pe_int (pa_cons pe_bl pa_nil)))))), ?_⟩
    refine ⟨_, rfl, 63, rfl, a, _, rfl, hS, fun c nc => ?_⟩
    refine ⟨by show 4 ≤ sizeLine; decide, fun st nst => ?_⟩
    have ncs : c ≠ st := fun e => by
      rw [e, upd_same] at nst
      cases nst
    have s1 := same_new (o := .lst (cutV (ns.map V.int) none (some 63))) nc
    refine q _ st c (s1.trans (same_new nst)) (s1.free nst) nc ⟨0, 0, false, ns.take 63, upd_same, ?_, ?_, ncs⟩
    · rw [upd_ne ncs, upd_same, cut63, List.map_take]
    · rw [List.length_take]
      exact Nat.min_le_left _ _
def spMixed : Sp := fun vs H Q _ => ∃ z : Int, vs = [.int z] ∧ ∀ H' (m : Int), Same H H' → Q (.int m) H'
theorem scMixed : FnScope ["_law_seed", "_law_primes", "_law_number_here", "_law_k", "_law_prime", "_law_far", "_law_square", "_law_power"] ["_law_seed"] (defScope sMixed) := ⟨rfl, rfl, rfl, by decide +kernel, rfl, by decide +kernel, by decide +kernel⟩
def primes : List Int := [2147483647, 2147483629, 2147483587, 2147483579, 2147483563]
def adds : List Int := [11, 101, 1009, 10007, 100003]
theorem at_some {xs : List Int} {i : Nat} (h : i < xs.length) : atI (xs.map V.int) (i : Int) = some (.int xs[i]) :=
  atI_nat (by rw [List.getElem?_map, List.getElem?_eq_getElem h]; rfl)
theorem primes_ok : ∀ x ∈ primes, 0 < x ∧ x < 2 ^ 31 := by decide
theorem ok_mixed {f : Addr} {fd : FuncData} {k : Nat} (F : Fun K "_law_mixed" "_law_mixed" sMixed f fd) (me : mg "enumerate" = none) : FnOk P w K mg base CX0 (k + 1) f fd ["_law_seed"] spMixed := by
  refine F.ok scMixed (fun vs H Q E h => ?_) (fun cdv A outer s H vs Q E hr h => ?_)
  · obtain ⟨a, rfl, _⟩ := h
    rfl
  · obtain ⟨z, rfl, q⟩ := h
    refine ⟨_, pss_cons (ps_set (i := 1) scMixed.nd rfl (.inl rfl) (pe_tup (pa_cons pe_int (pa_cons pe_int (pa_cons pe_int (pa_cons pe_int (pa_cons pe_int pa_nil)))))))
      (pss_cons (ps_set (i := 2) scMixed.nd rfl (.inl rfl) pe_int)
      (pss_cons (ps_for PassesOwn.never rfl (pi_enT (by rfl) me (pa_cons (pv 1) pa_nil)) (pg_tup rfl (pgs_cons (pg_name (i := 3) scMixed.nd rfl (.inl rfl)) (pgs_cons (pg_name (i := 4) scMixed.nd rfl (.inl rfl)) pgs_nil)))
        (pss_cons (ps_set (i := 5) scMixed.nd rfl (.inl rfl) (pe_op op_add (pv 0) (pe_ix ix_tup (pe_tup (pa_cons pe_int (pa_cons pe_int (pa_cons pe_int (pa_cons pe_int (pa_cons pe_int pa_nil)))))) (pv 3) (fun _ _ => rfl))))
        (pss_cons (ps_set (i := 5) scMixed.nd rfl (.inl rfl) (pe_op op_mod (pe_op op_mul (pv 5) (pe_op op_add pe_int (pe_op op_mul pe_int (pv 3)))) (pv 4)))
        (pss_cons (ps_set (i := 6) scMixed.nd rfl (.inl rfl) (pe_op op_mod (pe_op op_mul (pv 5) (pv 5)) (pv 4)))
        (pss_cons (ps_set (i := 7) scMixed.nd rfl (.inl rfl) (pe_op op_mod (pe_op op_mul (pe_op op_mod (pe_op op_mul (pv 6) (pv 6)) (pv 4)) (pv 5)) (pv 4)))
        (pss_one (ps_set (i := 2) scMixed.nd rfl (.inl rfl) (pe_op op_add (pe_op op_mul (pv 2) (pv 4)) (pv 7)))))))))
      (pss_one (ps_ret (pv 2))))), ?_⟩
    refine ⟨by show 5 ≤ sizeLine; decide, fun t nt => ?_⟩
    have s1 := same_new (o := .tup (primes.map V.int)) nt
    have e1 : (upd H t (.tup (primes.map V.int))) t = some (.tup (primes.map V.int)) := upd_same
    refine ⟨_, rfl, t, primes.map V.int, rfl, .inl (.inl e1), ?_⟩
    refine ⟨fun i m σ H3 => ∃ (nn : Int) (y3 y4 y5 y6 y7 : Option V), σ = [some (.int z), some (.ref t), some (.int nn), y3, y4, y5, y6, y7] ∧ i + m = 5 ∧ Same (upd H t (.tup (primes.map V.int))) H3,
      ⟨5, 0, none, none, none, none, none, rfl, rfl, Same.refl _⟩, fun i m σ H3 hW => ?_⟩
    obtain ⟨nn, y3, y4, y5, y6, y7, rfl, em, sm⟩ := hW
    have e3 : SqT K H3 t (primes.map V.int) := .inl (.inl (sm _ _ e1))
    by_cases hi : i < 5
    · have hp : i < primes.length := hi
      refine .inr ⟨⟨_, _, e3, by rw [List.getElem?_map, List.getElem?_eq_getElem hp]; rfl⟩,
        fun σ' H' => ∃ (nn : Int) (y3 y4 y5 y6 y7 : Option V), σ' = [some (.int z), some (.ref t), some (.int nn), y3, y4, y5, y6, y7] ∧ Same (upd H t (.tup (primes.map V.int))) H', fun σ' H' hN => ?_, fun x H' hy => ?_⟩
      · obtain ⟨a1, a2, a3, a4, a5, a6, r1, r2⟩ := hN
        exact ⟨m - 1, by omega, a1, a2, a3, a4, a5, a6, r1, by omega, r2⟩
      · obtain ⟨T, v, rfl, nT, rfl, fv⟩ := hy
        have ev : v = .int primes[i] := by
          have zz := fv _ e3
          rw [List.getElem?_map, List.getElem?_eq_getElem hp] at zz
          exact (Option.some.inj zz).symm
        subst ev
        have pr : 0 < primes[i] ∧ primes[i] < 2 ^ 31 := primes_ok _ (List.getElem_mem hp)
        generalize primes[i] = pp at pr
        have sT := same_new (o := .tup [.int (i : Nat), .int pp]) nT
        refine ⟨T, [.int (i : Nat), .int pp], rfl, .inl (.inl upd_same), rfl, _, _, rfl, _, _, rfl, rfl, ?_⟩
        -- far = seed + (..)[k]
        refine ⟨_, rfl, by show 5 ≤ sizeLine; decide, fun U nU => ?_⟩
        have sU := same_new (o := .tup (adds.map V.int)) nU
        have hA : i < adds.length := hi
        refine ⟨_, rfl, U, adds.map V.int, (i : Int), .int adds[i], rfl, rfl, .inl (.inl upd_same), at_some hA, z, adds[i], rfl, rfl, ?_⟩
        obtain ⟨far, hfar⟩ : ∃ far, z + adds[i] = far := ⟨_, rfl⟩
        -- far = far * (48271 + 2 * k) % prime
        refine ⟨_, rfl, _, rfl, 2, (i : Int), rfl, rfl, .inl ⟨by decide, by decide⟩, 48271, 2 * (i : Int), rfl, rfl, far, _, congrArg V.int hfar, rfl, .inr ⟨by omega, by omega⟩, _, rfl, _, pp, rfl, rfl, pr.1, ?_⟩
        obtain ⟨fa, hfa⟩ : ∃ fa, far * (48271 + 2 * (i : Int)) % pp = fa := ⟨_, rfl⟩
        have f1 := Int.emod_nonneg (far * (48271 + 2 * (i : Int))) (b := pp) (by omega)
        have f2 := Int.emod_lt_of_pos (far * (48271 + 2 * (i : Int))) pr.1
        rw [hfa] at f1 f2
        -- square
        refine ⟨_, rfl, _, rfl, fa, fa, congrArg V.int hfa, congrArg V.int hfa, .inl ⟨by omega, by omega⟩, _, rfl, _, pp, rfl, rfl, pr.1, ?_⟩
        obtain ⟨sq, hsq⟩ : ∃ sq, fa * fa % pp = sq := ⟨_, rfl⟩
        have g1 := Int.emod_nonneg (fa * fa) (b := pp) (by omega)
        have g2 := Int.emod_lt_of_pos (fa * fa) pr.1
        rw [hsq] at g1 g2
        -- power
        refine ⟨_, rfl, _, rfl, sq, sq, congrArg V.int hsq, congrArg V.int hsq, .inl ⟨by omega, by omega⟩, _, rfl, _, pp, rfl, rfl, pr.1, _, rfl, _, fa, rfl, congrArg V.int hfa, .inr ⟨by omega, by omega⟩, _, rfl, _, pp, rfl, rfl, pr.1, ?_⟩
        -- number
        refine ⟨_, rfl, _, rfl, nn, pp, rfl, rfl, .inr ⟨by omega, by omega⟩, _, rfl, _, _, rfl, rfl, ?_⟩
        exact ⟨_, _, _, _, _, _, rfl, sm.trans (sT.trans sU)⟩
    · refine .inl ⟨⟨_, e3, by show 5 = i; omega⟩, _, rfl, q _ nn (s1.trans sm)⟩
end
end SS

namespace SS
open PySem PySem.Spec PyProof.Rows L2
section
variable {P : Program} {w : World} {K : PySem.W.Frag} {mg : Str → Option Value} {base : Heap}
def spFill : Sp := fun vs H Q _ => ∃ st c : Addr, vs = [.ref st] ∧ StA st c H ∧ ∀ H', But st H H' → StA st c H' → Q .non H'
theorem scFill : FnScope ["_law_state", "_law_cells", "_law_at", "_law_seed"] ["_law_state"] (defScope sFill) := ⟨rfl, rfl, rfl, by decide +kernel, rfl, by decide +kernel, by decide +kernel⟩
theorem ok_fill {f : Addr} {fd : FuncData} (F : Fun K "_law_fill" "_law_fill" sFill f fd) (ml : mg "len" = none) (mx : Cl P w K mg base CX0 1 "_law_mixed" spMixed []) : FnOk P w K mg base CX0 2 f fd ["_law_state"] spFill := by
  refine F.ok scFill (fun vs H Q E h => ?_) (fun cdv A outer s H vs Q E hr h => ?_)
  · obtain ⟨a, _, rfl, _⟩ := h
    rfl
  · obtain ⟨st, c, rfl, hst, q⟩ := h
    refine ⟨_, pss_cons (ps_par (i := 1) (j := 2) rfl scFill.nd rfl rfl (by decide) rfl rfl (pa_cons (pe_ix ix_list (pv 0) pe_int (fun _ _ => rfl)) (pa_cons (pe_ix ix_list (pv 0) pe_int (fun _ _ => rfl)) pa_nil)) rfl)
      (pss_cons (ps_set (i := 3) scFill.nd rfl (.inl rfl) (pe_op op_add (pe_op op_mul pe_int (pv 2)) pe_int))
      (pss_cons (ps_if (pt_cmpR op_gt (pe_callB call_len_seq (by rfl) ml PySem.boot_len (pa_cons (pv 1) pa_nil)) pe_int (nomark _))
        (pss_cons (ps_set (i := 3) scFill.nd rfl (.inl rfl) (pe_op op_mul pe_int (pe_op op_fdiv (pv 2) (pe_callB call_len_seq (by rfl) ml PySem.boot_len (pa_cons (pv 1) pa_nil)))))
        (pss_one (ps_set (i := 3) scFill.nd rfl (.inl rfl) (pe_op op_add (pv 3) (pe_ix ix_list (pv 1) (pe_op op_mod (pv 2) (pe_callB call_len_seq (by rfl) ml PySem.boot_len (pa_cons (pv 1) pa_nil))) (fun _ _ => rfl))))))
        pss_nil)
      (pss_cons (ps_asg (pe_op op_add (pv 2) pe_int) (pg_sub (pv 0) pe_int set_list))
      (pss_cons (ps_asg (pe_or (pe_cmpR op_ge (pv 2) (pe_callB call_len_seq (by rfl) ml PySem.boot_len (pa_cons (pv 1) pa_nil)) (nomark _)) (pe_one (pe_cmpR op_lt (pv 3) (pe_op op_pow pe_int pe_int) (nomark _)))) (pg_sub (pv 0) pe_int set_list))
      (pss_one (ps_if (pt_val (pe_ix ix_list (pv 0) pe_int (fun _ _ => rfl)))
        (pss_one (ps_asg (pc0 mx hr (by decide) (pa_cons (pv 3) pa_nil)) (pg_sub (pv 0) pe_int set_list)))
        (pss_one (ps_asg (pe_op op_sub (pv 3) (pe_op op_pow pe_int pe_int)) (pg_sub (pv 0) pe_int set_list))))))))), ?_⟩
    obtain ⟨i, n, b, xs, h1, h2, h3, h4⟩ := hst
    refine ⟨_, rfl, st, _, 0, _, rfl, rfl, SqL.of h1, atI_nat (j := 0) rfl, _, rfl, st, _, 1, _, rfl, rfl, SqL.of h1, atI_nat (j := 1) rfl, _, _, rfl, ?_⟩
    refine ⟨_, rfl, 31, i, rfl, rfl, .inl ⟨by decide, by decide⟩, _, 7, rfl, rfl, ?_⟩
    refine ⟨_, rfl, c, _, rfl, .inl (SqL.of h2), _, _, rfl, rfl, _, rfl, ite2 (fun e => ?_) (fun e => ?_)⟩
    have e0 : (0 : Int) < ((xs.map V.int).length : Int) := of_decide_eq_true e
    have e1 : 0 < xs.length := by
      rw [List.length_map] at e0
      omega
    have el : ((xs.map V.int).length : Int) = (xs.length : Int) := by rw [List.length_map]
    refine ⟨_, rfl, _, rfl, c, _, rfl, .inl (SqL.of h2), i, (xs.length : Int), rfl, congrArg V.int el, ⟨by omega, by omega⟩, 104729, _, rfl, rfl, .inl ⟨by decide, by decide⟩, ?_⟩
    have m1 := Int.emod_nonneg i (b := (xs.length : Int)) (by omega)
    have m2 := Int.emod_lt_of_pos i (b := (xs.length : Int)) (by omega)
    have m3 : (i % (xs.length : Int)).toNat < xs.length := by omega
    have m4 : atI (xs.map V.int) (i % (xs.length : Int)) = some (.int xs[(i % (xs.length : Int)).toNat]) := by
      have e5 : i % (xs.length : Int) = (((i % (xs.length : Int)).toNat : Nat) : Int) := by omega
      exact at_of e5 (by rw [List.getElem?_map, List.getElem?_eq_getElem m3]; rfl)
    refine ⟨_, rfl, _, rfl, _, rfl, _, rfl, c, _, rfl, .inl (SqL.of h2), i, (xs.length : Int), rfl, congrArg V.int el, by omega, c, _, _, _, rfl, rfl, SqL.of h2, m4, _, _, rfl, rfl, ?_⟩
    all_goals
      refine ⟨_, rfl, i, 1, rfl, rfl, _, rfl, st, _, 1, 1, rfl, rfl, h1, rfl, ?_⟩
      have k2 : ∀ o : HO, (upd H st o) c = some (.lst (xs.map V.int)) := fun o => by
        rw [upd_ne h4]
        exact h2
      refine ⟨_, rfl, _, rfl, c, _, rfl, .inl (SqL.of (k2 _)), _, _, rfl, rfl, _, rfl, ite2 (fun e2 => ?_) (fun e2 => ?_)⟩
      rotate_left
      refine ⟨_, rfl, 10, 18, rfl, rfl, ⟨by decide, by decide, by decide⟩, _, _, rfl, rfl, ?_⟩
      all_goals
        refine ⟨_, rfl, st, _, 3, 3, rfl, rfl, upd_same, rfl, ?_⟩
        refine ⟨_, rfl, st, _, 3, _, rfl, rfl, SqL.of upd_same, atI_nat (j := 3) rfl, _, rfl, ite2 (fun e3 => ?_) (fun e3 => ?_)⟩
        · refine ⟨_, rfl, _, rfl, fun H3 m sm => ?_⟩
          refine ⟨_, rfl, st, _, 2, 2, rfl, rfl, sm _ _ upd_same, rfl, ?_⟩
          refine q _ (((But.upd.trans But.upd).trans (Same.but sm)).trans But.upd) ⟨_, _, _, xs, upd_same, ?_, h3, h4⟩
          rw [upd_ne h4]
          refine sm _ _ ?_
          rw [upd_ne h4]
          exact k2 _
        · refine ⟨_, rfl, 10, 18, rfl, rfl, ⟨by decide, by decide, by decide⟩, _, _, rfl, rfl, _, rfl, st, _, 2, 2, rfl, rfl, upd_same, rfl, ?_⟩
          refine q _ ((But.upd.trans But.upd).trans But.upd) ⟨_, _, _, xs, upd_same, ?_, h3, h4⟩
          rw [upd_ne h4, upd_ne h4]
          exact k2 _
end
end SS

namespace SS
open PySem PySem.Spec PyProof.Rows L2
section
variable {P : Program} {w : World} {K : PySem.W.Frag} {mg : Str → Option Value} {base : Heap}
def spTake : Sp := fun vs H Q _ => ∃ (st c : Addr) (many : Int), vs = [.ref st, .int many] ∧ 0 < many ∧ many.natAbs < 2 ^ 8000 ∧ StA st c H ∧
  ∀ H' (d : Int), But st H H' → StA st c H' → 0 ≤ d → d < many → Q (.int d) H'
theorem scTake : FnScope ["_law_state", "_law_many", "_law_turns", "_law_digit"] ["_law_state", "_law_many"] (defScope sTake) := ⟨rfl, rfl, rfl, by decide +kernel, rfl, by decide +kernel, by decide +kernel⟩
theorem StA.put {st : Addr} {H : Hp} {c : Addr} {i n : Int} {f : Bool} {xs : List Int} (h2 : H c = some (.lst (xs.map V.int))) (h3 : xs.length ≤ 63) (h4 : c ≠ st) : StA st c (upd H st (.lst [.ref c, .int i, .int n, .bl f])) :=
  ⟨i, n, f, xs, upd_same, by rw [upd_ne h4]; exact h2, h3, h4⟩
theorem ok_take {f : Addr} {fd : FuncData} (F : Fun K "_law_take" "_law_take" sTake f fd) (fl : Cl P w K mg base CX0 2 "_law_fill" spFill []) : FnOk P w K mg base CX0 3 f fd ["_law_state", "_law_many"] spTake := by
  refine F.ok scTake (fun vs H Q E h => ?_) (fun cdv A outer s H vs Q E hr h => ?_)
  · obtain ⟨a, _, b, rfl, _⟩ := h
    rfl
  · obtain ⟨st, c, many, rfl, m0, m1, hst, q⟩ := h
    refine ⟨_, pss_cons (ps_set (i := 2) scTake.nd rfl (.inl rfl) pe_int)
      (pss_cons (ps_while PassesOwn.never
        (PW.pt (pw_and (pt_cmpR op_lt (pv 2) pe_int (nomark _)) (pw_and1 (PW.pt (pw_or (pt_cmpR op_eq (pe_ix ix_list (pv 0) pe_int (fun _ _ => rfl)) pe_int (nomark _))
          (pw_or1 (PW.pt (pw_and (pt_val (pe_ix ix_list (pv 0) pe_int (fun _ _ => rfl))) (pw_and1 (pt_cmpR op_lt (pe_ix ix_list (pv 0) pe_int (fun _ _ => rfl)) (pe_op op_mul (pv 1) pe_int) (nomark _)))))))))))
        (pss_cons (ps_expr (pc0 fl hr (by decide) (pa_cons (pv 0) pa_nil)))
        (pss_cons (ps_aug (i := 2) scTake.nd rfl (.inl rfl) pe_int ip_add)
        (pss_one (ps_if (PW.pt (pw_and (pt_val (pe_ix ix_list (pv 0) pe_int (fun _ _ => rfl))) (pw_and1 (pt_cmpR op_lt (pe_ix ix_list (pv 0) pe_int (fun _ _ => rfl)) (pe_op op_mul (pv 1) pe_int) (nomark _)))))
          (pss_one (ps_asg (pe_op op_add (pe_ix ix_list (pv 0) pe_int (fun _ _ => rfl)) (pe_op op_mul (pe_op op_mul (pv 1) pe_int) (pe_op op_add pe_int (pe_op op_mod (pe_ix ix_list (pv 0) pe_int (fun _ _ => rfl)) pe_int)))) (pg_sub (pv 0) pe_int set_list))) pss_nil)))))
      (pss_cons (ps_set (i := 3) scTake.nd rfl (.inl rfl) (pe_op op_mod (pe_ix ix_list (pv 0) pe_int (fun _ _ => rfl)) (pv 1)))
      (pss_cons (ps_asg (pe_op op_fdivW (pe_ix ix_list (pv 0) pe_int (fun _ _ => rfl)) (pv 1)) (pg_sub (pv 0) pe_int set_list))
      (pss_one (ps_ret (pv 3)))))), ?_⟩
    refine ⟨fun m σ H' => ∃ (tn : Int) (y3 : Option V), σ = [some (.ref st), some (.int many), some (.int tn), y3] ∧ But st H H' ∧ StA st c H' ∧ m = (64 - tn).toNat,
      ⟨64, 0, none, rfl, But.refl _ _, hst, rfl⟩, fun m σ H1 hW => ?_⟩
    obtain ⟨tn, y3, rfl, bt, sa, rfl⟩ := hW
    obtain ⟨i, n, b, xs, h1, h2, h3, h4⟩ := id sa
    refine ⟨_, rfl, tn, 64, rfl, rfl, _, rfl, ite2 (fun e => ?n2) (fun e => iteF ?ex1)⟩
    case' n2 => refine ⟨_, rfl, st, _, 2, _, rfl, rfl, SqL.of h1, atI_nat (j := 2) rfl, rfl, _, rfl, ite2 (fun e1 => iteT ?bd1) (fun e1 => ?n3)⟩
    case' n3 => refine ⟨_, rfl, st, _, 3, _, rfl, rfl, SqL.of h1, atI_nat (j := 3) rfl, _, rfl, ite2 (fun e2 => ?n4) (fun e2 => iteF ?ex2)⟩
    case' n4 => refine ⟨_, rfl, st, _, 2, _, rfl, rfl, SqL.of h1, atI_nat (j := 2) rfl, _, rfl, many, 4096, rfl, rfl, .inr ⟨by decide, by decide⟩, n, _, rfl, rfl, _, rfl, ite2 (fun e3 => ?bd2) (fun e3 => ?ex3)⟩
    case ex1 | ex2 | ex3 =>
      refine ⟨_, rfl, st, _, 2, _, rfl, rfl, SqL.of h1, atI_nat (j := 2) rfl, _, rfl, n, many, rfl, rfl, m0, ?_⟩
      refine ⟨_, rfl, st, _, 2, _, rfl, rfl, SqL.of h1, atI_nat (j := 2) rfl, _, rfl, n, many, rfl, rfl, wide_div m0 m1 (by decide) (by decide), _, rfl, st, _, 2, 2, rfl, rfl, h1, rfl, ?_⟩
      exact ⟨_, rfl, q _ _ (bt.trans But.upd) (StA.put h2 h3 h4) (Int.emod_nonneg _ (by omega)) (Int.emod_lt_of_pos _ m0)⟩
    case bd1 | bd2 =>
      have e' : tn < 64 := of_decide_eq_true e
      refine ⟨fun σ' H' => ∃ (tn' : Int) (y3 : Option V), σ' = [some (.ref st), some (.int many), some (.int tn'), y3] ∧ But st H H' ∧ StA st c H' ∧ tn' = tn + 1, fun σ' H' hN => ?_, ?_⟩
      · obtain ⟨t', y', r1, r2, r3, r4⟩ := hN
        exact ⟨_, by omega, t', y', r1, r2, r3, rfl⟩
      · refine ⟨_, rfl, st, c, rfl, sa, fun H2 b2 s2 => ?_⟩
        obtain ⟨i, n, b, xs, h1, h2, h3, h4⟩ := id s2
        refine ⟨_, rfl, _, _, rfl, rfl, ?_⟩
        refine ⟨_, rfl, st, _, 3, _, rfl, rfl, SqL.of h1, atI_nat (j := 3) rfl, _, rfl, ite2 (fun e2 => ?_) (fun e2 => iteF ?_)⟩
        · refine ⟨_, rfl, st, _, 2, _, rfl, rfl, SqL.of h1, atI_nat (j := 2) rfl, _, rfl, many, 4096, rfl, rfl, .inr ⟨by decide, by decide⟩, n, _, rfl, rfl, _, rfl, ite2 (fun e3 => ?_) (fun e3 => ?_)⟩
          · refine ⟨_, rfl, st, _, 2, _, rfl, rfl, SqL.of h1, atI_nat (j := 2) rfl, _, rfl, many, 4096, rfl, rfl, .inr ⟨by decide, by decide⟩, _, rfl, st, _, 2, _, rfl, rfl, SqL.of h1, atI_nat (j := 2) rfl, n, 4093, rfl, rfl, (by show (0 : Int) < 4093; decide), 1, n % 4093, rfl, rfl, _, 1 + n % 4093, rfl, rfl, .inr ⟨by omega, by omega⟩, n, _, rfl, rfl, ?_⟩
            refine ⟨_, rfl, st, _, 2, 2, rfl, rfl, h1, rfl, ?_⟩
            exact ⟨_, _, rfl, (bt.trans b2).trans But.upd, StA.put h2 h3 h4, rfl⟩
          · exact ⟨_, _, rfl, bt.trans b2, s2, rfl⟩
        · exact ⟨_, _, rfl, bt.trans b2, s2, rfl⟩
end
end SS

namespace SS
open PySem PySem.Spec PyProof.Rows L2
theorem sm_mul {i j : Int} {a b : Nat} (ha : i.natAbs < 2 ^ a) (hb : j.natAbs < 2 ^ b) : (i * j).natAbs < 2 ^ (a + b) := wide_lt ha hb
theorem sm_add {i j : Int} {a : Nat} (ha : i.natAbs < 2 ^ a) (hb : j.natAbs < 2 ^ a) : (i + j).natAbs < 2 ^ (a + 1) := by
  rw [Nat.pow_succ]
  omega
theorem sm_sub {i j : Int} {a : Nat} (ha : i.natAbs < 2 ^ a) (hb : j.natAbs < 2 ^ a) : (i - j).natAbs < 2 ^ (a + 1) := by
  rw [Nat.pow_succ]
  omega
theorem sm_mono {i : Int} {a b : Nat} (ha : i.natAbs < 2 ^ a) (h : a ≤ b) : i.natAbs < 2 ^ b := Nat.lt_of_lt_of_le ha (Nat.pow_le_pow_right (by decide) h)
theorem pos_ne {a b : Int} (h1 : 0 < a) (h2 : 0 < b) : a * b ≠ 0 := Int.ne_of_gt (Int.mul_pos h1 h2)
end SS

namespace SS
open PySem PySem.Spec PyProof.Rows L2
/-! ### how many bits a number has -/
theorem mt_bits {X : Cx} : MtR X "int.bit_length" (fun x xs H Q => ∃ a : Int, x = .int a ∧ xs = [] ∧ Q (.int ((Builtin.Int.intBits a : Nat) : Int)) H) := by
  intro pins s σ H x xs v us Q I rx rs h
  obtain ⟨a, rfl, rfl, h⟩ := h
  obtain ⟨t, rfl⟩ := rx
  cases rs
  exact call_int_bit_length ⟨.int ((Builtin.Int.intBits a : Nat) : Int), H, I.tok _, ⟨_, rfl⟩, h⟩
theorem bits_le {d : Int} {k : Nat} (h : d.natAbs < 2 ^ k) : Builtin.Int.intBits d ≤ k := by
  unfold Builtin.Int.intBits
  by_cases c : d = 0
  · rw [if_pos (beq_iff_eq.mpr c)]
    exact Nat.zero_le _
  · rw [if_neg fun z => c (beq_iff_eq.mp z)]
    exact (Nat.log2_lt (Int.natAbs_ne_zero.mpr c)).mpr h
theorem dv_lt {d g : Int} {k : Nat} (hg : g ∣ d) (h0 : g ≠ 0) (h : d.natAbs < 2 ^ k) : (d.fdiv g).natAbs < 2 ^ k := by
  obtain ⟨c, rfl⟩ := hg
  rw [gcdDvdMul h0]
  rw [Int.natAbs_mul] at h
  exact Nat.lt_of_le_of_lt (Nat.le_mul_of_pos_left _ (Int.natAbs_pos.mpr h0)) h
theorem cdiv_ok {g : Int} (h0 : g ≠ 0) (h : g.natAbs < 2 ^ 3000) (i : Int) : CDivG i g := ⟨h0, logOf (n := 3000) (by decide) h (by decide)⟩
theorem gcd_ne {a b : Int} (h : b ≠ 0) : ((Int.gcd a b : Nat) : Int) ≠ 0 := by
  have := gcdP (t := a) h
  omega
theorem gcd_ltK {a b : Int} {k : Nat} (h : b ≠ 0) (hb : b.natAbs < 2 ^ k) : ((Int.gcd a b : Nat) : Int).natAbs < 2 ^ k := by
  rw [Int.natAbs_natCast]
  exact Nat.lt_of_le_of_lt (Nat.le_of_dvd (Int.natAbs_pos.mpr h) (Nat.gcd_dvd_right ..)) hb
section
variable {P : Program} {w : World} {K : PySem.W.Frag} {mg : Str → Option Value} {base : Heap}
def shortB (d1 d2 : Int) : Bool := decide (((Builtin.Int.intBits d1 : Nat) : Int) + ((Builtin.Int.intBits d2 : Nat) : Int) ≤ 256)
theorem short_of {d1 d2 : Int} (h1 : d1.natAbs < 2 ^ 128) (h2 : d2.natAbs < 2 ^ 128) : shortB d1 d2 = true := decide_eq_true (by
  have := bits_le h1
  have := bits_le h2
  omega)
def spAre (K : PySem.W.Frag) : Sp := fun vs H Q _ => ∃ (p q : Addr) (n1 d1 n2 d2 : Int), vs = [.ref p, .ref q] ∧ SqT K H p [.int n1, .int d1] ∧ SqT K H q [.int n2, .int d2] ∧ Q (.bl (shortB d1 d2)) H
theorem scAre : FnScope ["a", "b"] ["a", "b"] (defScope sAre) := ⟨rfl, rfl, rfl, by decide +kernel, rfl, by decide +kernel, by decide +kernel⟩
theorem ok_are {f : Addr} {fd : FuncData} {k : Nat} {tSb : Tok} (F : Fun K "are_short" "are_short" sAre f fd) (gSb : mg "SHORT_BITS" = some (.int 256 tSb)) : FnOk P w K mg base CX0 (k + 1) f fd ["a", "b"] (spAre K) := by
  refine F.ok scAre (fun vs H Q E h => ?_) (fun cdv A outer s H vs Q E hr h => ?_)
  · obtain ⟨_, _, _, _, _, _, rfl, _⟩ := h
    rfl
  · obtain ⟨p, q, n1, d1, n2, d2, rfl, h1, h2, k⟩ := h
    refine ⟨_, pss_one (ps_ret (pe_cmpR op_le (pe_op op_add
        (pe_bm0 PySem.F.plainAttrs_int PySem.F.slot_int_bit_length PySem.F.type_int_bit_length mt_bits (pe_ix ix_tup (pv 0) pe_int (fun _ _ => rfl)))
        (pe_bm0 PySem.F.plainAttrs_int PySem.F.slot_int_bit_length PySem.F.type_int_bit_length mt_bits (pe_ix ix_tup (pv 1) pe_int (fun _ _ => rfl))))
      (pe_glob (v := .int 256) (by rfl) gSb ⟨_, rfl⟩) (nomark _))), ?_⟩
    refine ⟨_, rfl, p, _, 1, _, rfl, rfl, h1, atI_nat (j := 1) rfl, rfl, d1, rfl, rfl, _, rfl, q, _, 1, _, rfl, rfl, h2, atI_nat (j := 1) rfl, rfl, d2, rfl, rfl, _, _, rfl, rfl, _, _, rfl, rfl, k⟩
end
end SS

namespace SS
open PySem PySem.Spec PyProof.Rows L2
/-- a tuple of two numbers, wherever it stands -/
def FrT (K : PySem.W.Frag) (H : Hp) (p : Addr) (n d : Int) : Prop := SqT K H p [.int n, .int d] ∧ TyX K H (.ref p) (.type "tuple")
theorem FrT.of {K : PySem.W.Frag} {H : Hp} {p : Addr} {n d : Int} (h : H p = some (.tup [.int n, .int d])) : FrT K H p n d := ⟨SqT.of h, .base (.tup h)⟩
theorem FrT.new {K : PySem.W.Frag} {H H' : Hp} {p : Addr} {n d : Int} (h : FrT K H p n d) (s : Same H H') : FrT K H' p n d := by
  obtain ⟨h1, h2⟩ := h
  rcases h1 with (h1 | ⟨o, h1⟩) | ⟨o, its, m, k1, k2, k3⟩
  · exact ⟨.inl (.inl (s _ _ h1)), .base (.tup (s _ _ h1))⟩
  · exact ⟨.inl (.inr ⟨o, s _ _ h1⟩), .fTuple (s _ _ h1)⟩
  · exact ⟨.inr ⟨o, its, m, k1, k2, k3⟩, .kTuple k1 k2⟩
theorem FrT.inj {K : PySem.W.Frag} {H : Hp} {p : Addr} {n d : Int} {xs : List V} (h : FrT K H p n d) (e : H p = some (.tup xs)) : True := trivial
end SS
namespace SS
open PySem PySem.Spec PyProof.Rows L2
section
variable {P : Program} {w : World} {K : PySem.W.Frag} {mg : Str → Option Value} {base : Heap}
/-! ### a whole number, a fraction by the law's own look -/
def spWhole : Sp := fun vs H Q _ => ∃ i : Int, vs = [.int i] ∧ Q (.bl true) H
def spIsf (K : PySem.W.Frag) : Sp := fun vs H Q _ => ∃ (p : Addr) (n d : Int), vs = [.ref p] ∧ FrT K H p n d ∧ 0 < d ∧ Int.gcd n d = 1 ∧ ∀ H', Same H H' → Q (.bl true) H'
end
end SS
namespace SS
open PySem PySem.Spec PyProof.Rows L2
section
variable {P : Program} {w : World} {K : PySem.W.Frag} {mg : Str → Option Value} {base : Heap}
/-! ### plus, minus, times, over, is_less -/
/-- two fractions of few bits come in -/
def Two (K : PySem.W.Frag) (H : Hp) (vs : List V) (n1 d1 n2 d2 : Int) : Prop := ∃ p q : Addr, vs = [.ref p, .ref q] ∧ FrT K H p n1 d1 ∧ FrT K H q n2 d2 ∧
  0 < d1 ∧ 0 < d2 ∧ n1.natAbs < 2 ^ 3000 ∧ d1.natAbs < 2 ^ 3000 ∧ n2.natAbs < 2 ^ 3000 ∧ d2.natAbs < 2 ^ 3000 ∧ Int.gcd n1 d1 = 1 ∧ Int.gcd n2 d2 = 1
def spPlus (K : PySem.W.Frag) : Sp := fun vs H Q _ => ∃ n1 d1 n2 d2 : Int, Two K H vs n1 d1 n2 d2 ∧ ∀ r, H r = none → Q (.ref r) (upd H r (.tup [.int (fr1 (n1 * d2 + n2 * d1) (d1 * d2)), .int (fr2 (n1 * d2 + n2 * d1) (d1 * d2))]))
theorem scPlus : FnScope ["a", "b", "shared", "top", "divisor"] ["a", "b"] (defScope sPlus) := ⟨rfl, rfl, rfl, by decide +kernel, rfl, by decide +kernel, by decide +kernel⟩
theorem ok_plus {f C : Addr} {fd : FuncData} (F : Fun K "plus" "plus" sPlus f fd) (fo : Cl P w K mg base (L2.CX P w) 2 "fraction_of" (spFo C) []) (cd : Cl P w K mg base CX0 1 "common_divisor" spGcd []) (ar : Cl P w K mg base CX0 1 "are_short" (spAre K) []) : FnOk P w K mg base CX0 3 f fd ["a", "b"] (spPlus K) := by
  refine F.ok scPlus (fun vs H Q E h => ?_) (fun cdv A outer s H vs Q E hr h => ?_)
  · obtain ⟨_, _, _, _, ⟨p, q, rfl, _⟩, _⟩ := h
    rfl
  · obtain ⟨n1, d1, n2, d2, ⟨p, q, rfl, h1, h2, z1, z2, b1, b2, b3, b4, g1, g2⟩, k⟩ := h
    refine ⟨_, (pss_cons (ps_if (pt_val (pc0 ar hr (by decide) (pa_cons (pv 0) (pa_cons (pv 1) pa_nil))))
        (pss_one (ps_ret (pcX fo hr (by decide) (pa_cons (pe_op op_add (pe_op op_mulW (pe_ix ix_tup (pv 0) pe_int (fun _ _ => rfl)) (pe_ix ix_tup (pv 1) pe_int (fun _ _ => rfl))) (pe_op op_mulW (pe_ix ix_tup (pv 1) pe_int (fun _ _ => rfl)) (pe_ix ix_tup (pv 0) pe_int (fun _ _ => rfl)))) (pa_cons (pe_op op_mulW (pe_ix ix_tup (pv 0) pe_int (fun _ _ => rfl)) (pe_ix ix_tup (pv 1) pe_int (fun _ _ => rfl))) pa_nil))))) pss_nil)
      (pss_cons (ps_set (i := 2) scPlus.nd rfl (.inl rfl) (pc0 cd hr (by decide) (pa_cons (pe_ix ix_tup (pv 0) pe_int (fun _ _ => rfl)) (pa_cons (pe_ix ix_tup (pv 1) pe_int (fun _ _ => rfl)) pa_nil))))
      (pss_cons (ps_set (i := 3) scPlus.nd rfl (.inl rfl) (pe_op op_add (pe_op op_mulW (pe_ix ix_tup (pv 0) pe_int (fun _ _ => rfl)) (pe_op op_fdivG (pe_ix ix_tup (pv 1) pe_int (fun _ _ => rfl)) (pv 2))) (pe_op op_mulW (pe_ix ix_tup (pv 1) pe_int (fun _ _ => rfl)) (pe_op op_fdivG (pe_ix ix_tup (pv 0) pe_int (fun _ _ => rfl)) (pv 2)))))
      (pss_cons (ps_set (i := 4) scPlus.nd rfl (.inl rfl) (pc0 cd hr (by decide) (pa_cons (pv 3) (pa_cons (pv 2) pa_nil))))
      (pss_one (ps_ret (pe_tup (pa_cons (pe_op op_fdivG (pv 3) (pv 4)) (pa_cons (pe_op op_mulW (pe_op op_fdivG (pe_ix ix_tup (pv 0) pe_int (fun _ _ => rfl)) (pv 2)) (pe_op op_fdivG (pe_ix ix_tup (pv 1) pe_int (fun _ _ => rfl)) (pv 4))) pa_nil))))))))), ?_⟩
    refine ⟨_, rfl, _, rfl, p, q, n1, d1, n2, d2, rfl, h1.1, h2.1, _, rfl, ite2 (fun _ => ?_) (fun _ => ?_)⟩
    · refine ⟨_, rfl, p, _, 0, _, rfl, rfl, h1.1, atI_nat (j := 0) rfl, _, rfl, q, _, 1, _, rfl, rfl, h2.1, atI_nat (j := 1) rfl, n1, d2, rfl, rfl, wide_mul b1 b4 (by decide) (by decide) (by decide), ?_⟩
      refine ⟨_, rfl, q, _, 0, _, rfl, rfl, h2.1, atI_nat (j := 0) rfl, _, rfl, p, _, 1, _, rfl, rfl, h1.1, atI_nat (j := 1) rfl, n2, d1, rfl, rfl, wide_mul b3 b2 (by decide) (by decide) (by decide), _, _, rfl, rfl, ?_⟩
      refine ⟨_, rfl, p, _, 1, _, rfl, rfl, h1.1, atI_nat (j := 1) rfl, _, rfl, q, _, 1, _, rfl, rfl, h2.1, atI_nat (j := 1) rfl, d1, d2, rfl, rfl, wide_mul b2 b4 (by decide) (by decide) (by decide), ?_⟩
      exact ⟨n1 * d2 + n2 * d1, d1 * d2, rfl, fun e => absurd e (pos_ne z1 z2), fun _ => ⟨sm_mono (sm_mul b2 b4) (by decide), k⟩⟩
    · have d20 : d2 ≠ 0 := Int.ne_of_gt z2
      have s0 : plD d1 d2 ≠ 0 := gcd_ne d20
      have sl : (plD d1 d2).natAbs < 2 ^ 3000 := gcd_ltK d20 b4
      have G0 : plG n1 d1 n2 d2 ≠ 0 := gcd_ne s0
      have Gl : (plG n1 d1 n2 d2).natAbs < 2 ^ 3000 := gcd_ltK s0 sl
      have sd1 : plD d1 d2 ∣ d1 := Int.gcd_dvd_left d1 d2
      have sd2 : plD d1 d2 ∣ d2 := Int.gcd_dvd_right d1 d2
      have Gd2 : plG n1 d1 n2 d2 ∣ d2 := Int.dvd_trans (Int.gcd_dvd_right (plT n1 d1 n2 d2) (plD d1 d2)) sd2
      refine ⟨_, rfl, p, _, 1, _, rfl, rfl, h1.1, atI_nat (j := 1) rfl, _, rfl, q, _, 1, _, rfl, rfl, h2.1, atI_nat (j := 1) rfl, d1, d2, rfl, ?_⟩
      refine ⟨_, rfl, p, _, 0, _, rfl, rfl, h1.1, atI_nat (j := 0) rfl, _, rfl, q, _, 1, _, rfl, rfl, h2.1, atI_nat (j := 1) rfl, _, rfl, d2, plD d1 d2, rfl, rfl, cdiv_ok s0 sl d2, n1, d2.fdiv (plD d1 d2), rfl, rfl, wide_mul b1 (dv_lt sd2 s0 b4) (by decide) (by decide) (by decide), ?_⟩
      refine ⟨_, rfl, q, _, 0, _, rfl, rfl, h2.1, atI_nat (j := 0) rfl, _, rfl, p, _, 1, _, rfl, rfl, h1.1, atI_nat (j := 1) rfl, _, rfl, d1, plD d1 d2, rfl, rfl, cdiv_ok s0 sl d1, n2, d1.fdiv (plD d1 d2), rfl, rfl, wide_mul b3 (dv_lt sd1 s0 b2) (by decide) (by decide) (by decide), _, _, rfl, rfl, ?_⟩
      refine ⟨_, rfl, _, rfl, plT n1 d1 n2 d2, plD d1 d2, rfl, ?_⟩
      refine ⟨_, rfl, _, rfl, plT n1 d1 n2 d2, plG n1 d1 n2 d2, rfl, rfl, cdiv_ok G0 Gl _, ?_⟩
      refine ⟨_, rfl, p, _, 1, _, rfl, rfl, h1.1, atI_nat (j := 1) rfl, _, rfl, d1, plD d1 d2, rfl, rfl, cdiv_ok s0 sl d1, _, rfl, q, _, 1, _, rfl, rfl, h2.1, atI_nat (j := 1) rfl, _, rfl, d2, plG n1 d1 n2 d2, rfl, rfl, cdiv_ok G0 Gl d2, d1.fdiv (plD d1 d2), d2.fdiv (plG n1 d1 n2 d2), rfl, rfl, wide_mul (dv_lt sd1 s0 b2) (dv_lt Gd2 G0 b4) (by decide) (by decide) (by decide), small2, ?_⟩
      have e := plus_long z1 z2 g1 g2
      rw [← e.1, ← e.2] at k
      exact k
def spTimes (K : PySem.W.Frag) : Sp := fun vs H Q _ => ∃ n1 d1 n2 d2 : Int, Two K H vs n1 d1 n2 d2 ∧ ∀ r, H r = none → Q (.ref r) (upd H r (.tup [.int (fr1 (n1 * n2) (d1 * d2)), .int (fr2 (n1 * n2) (d1 * d2))]))
end
end SS

namespace SS
open PySem PySem.Spec PyProof.Rows L2
section
variable {P : Program} {w : World} {K : PySem.W.Frag} {mg : Str → Option Value} {base : Heap}
theorem scTimes : FnScope ["a", "b", "one", "other"] ["a", "b"] (defScope sTimes) := ⟨rfl, rfl, rfl, by decide +kernel, rfl, by decide +kernel, by decide +kernel⟩
theorem ok_times {f C : Addr} {fd : FuncData} (F : Fun K "times" "times" sTimes f fd) (fo : Cl P w K mg base (L2.CX P w) 2 "fraction_of" (spFo C) []) (cd : Cl P w K mg base CX0 1 "common_divisor" spGcd []) (ar : Cl P w K mg base CX0 1 "are_short" (spAre K) []) : FnOk P w K mg base CX0 3 f fd ["a", "b"] (spTimes K) := by
  refine F.ok scTimes (fun vs H Q E h => ?_) (fun cdv A outer s H vs Q E hr h => ?_)
  · obtain ⟨_, _, _, _, ⟨p, q, rfl, _⟩, _⟩ := h
    rfl
  · obtain ⟨n1, d1, n2, d2, ⟨p, q, rfl, h1, h2, z1, z2, b1, b2, b3, b4, g1, g2⟩, k⟩ := h
    refine ⟨_, (pss_cons (ps_if (pt_val (pc0 ar hr (by decide) (pa_cons (pv 0) (pa_cons (pv 1) pa_nil))))
        (pss_one (ps_ret (pcX fo hr (by decide) (pa_cons (pe_op op_mulW (pe_ix ix_tup (pv 0) pe_int (fun _ _ => rfl)) (pe_ix ix_tup (pv 1) pe_int (fun _ _ => rfl))) (pa_cons (pe_op op_mulW (pe_ix ix_tup (pv 0) pe_int (fun _ _ => rfl)) (pe_ix ix_tup (pv 1) pe_int (fun _ _ => rfl))) pa_nil))))) pss_nil)
      (pss_cons (ps_par (i := 2) (j := 3) rfl scTimes.nd rfl rfl (by decide) rfl rfl (pa_cons (pc0 cd hr (by decide) (pa_cons (pe_ix ix_tup (pv 0) pe_int (fun _ _ => rfl)) (pa_cons (pe_ix ix_tup (pv 1) pe_int (fun _ _ => rfl)) pa_nil))) (pa_cons (pc0 cd hr (by decide) (pa_cons (pe_ix ix_tup (pv 1) pe_int (fun _ _ => rfl)) (pa_cons (pe_ix ix_tup (pv 0) pe_int (fun _ _ => rfl)) pa_nil))) pa_nil)) rfl)
      (pss_one (ps_ret (pe_tup (pa_cons (pe_op op_mulW (pe_op op_fdivG (pe_ix ix_tup (pv 0) pe_int (fun _ _ => rfl)) (pv 2)) (pe_op op_fdivG (pe_ix ix_tup (pv 1) pe_int (fun _ _ => rfl)) (pv 3))) (pa_cons (pe_op op_mulW (pe_op op_fdivG (pe_ix ix_tup (pv 0) pe_int (fun _ _ => rfl)) (pv 3)) (pe_op op_fdivG (pe_ix ix_tup (pv 1) pe_int (fun _ _ => rfl)) (pv 2))) pa_nil))))))), ?_⟩
    refine ⟨_, rfl, _, rfl, p, q, n1, d1, n2, d2, rfl, h1.1, h2.1, _, rfl, ite2 (fun _ => ?_) (fun _ => ?_)⟩
    · refine ⟨_, rfl, p, _, 0, _, rfl, rfl, h1.1, atI_nat (j := 0) rfl, _, rfl, q, _, 0, _, rfl, rfl, h2.1, atI_nat (j := 0) rfl, n1, n2, rfl, rfl, wide_mul b1 b3 (by decide) (by decide) (by decide), ?_⟩
      refine ⟨_, rfl, p, _, 1, _, rfl, rfl, h1.1, atI_nat (j := 1) rfl, _, rfl, q, _, 1, _, rfl, rfl, h2.1, atI_nat (j := 1) rfl, d1, d2, rfl, rfl, wide_mul b2 b4 (by decide) (by decide) (by decide), ?_⟩
      exact ⟨n1 * n2, d1 * d2, rfl, fun e => absurd e (pos_ne z1 z2), fun _ => ⟨sm_mono (sm_mul b2 b4) (by decide), k⟩⟩
    · have d10 : d1 ≠ 0 := Int.ne_of_gt z1
      have d20 : d2 ≠ 0 := Int.ne_of_gt z2
      have a0 := gcd_ne (a := n1) d20
      have al := gcd_ltK (a := n1) d20 b4
      have c0 := gcd_ne (a := n2) d10
      have cl := gcd_ltK (a := n2) d10 b2
      have e := times_long z1 z2 g1 g2
      have m1 := dv_lt (Int.gcd_dvd_left n1 d2) a0 b1
      have m2 := dv_lt (Int.gcd_dvd_right n1 d2) a0 b4
      have m3 := dv_lt (Int.gcd_dvd_left n2 d1) c0 b3
      have m4 := dv_lt (Int.gcd_dvd_right n2 d1) c0 b2
      refine ⟨_, rfl, p, _, 0, _, rfl, rfl, h1.1, atI_nat (j := 0) rfl, _, rfl, q, _, 1, _, rfl, rfl, h2.1, atI_nat (j := 1) rfl, n1, d2, rfl, _, rfl, q, _, 0, _, rfl, rfl, h2.1, atI_nat (j := 0) rfl, _, rfl, p, _, 1, _, rfl, rfl, h1.1, atI_nat (j := 1) rfl, n2, d1, rfl, _, _, rfl, ?_⟩
      generalize ((Int.gcd n1 d2 : Nat) : Int) = a at *
      generalize ((Int.gcd n2 d1 : Nat) : Int) = c at *
      refine ⟨_, rfl, p, _, 0, _, rfl, rfl, h1.1, atI_nat (j := 0) rfl, _, rfl, n1, a, rfl, rfl, cdiv_ok a0 al n1, _, rfl, q, _, 0, _, rfl, rfl, h2.1, atI_nat (j := 0) rfl, _, rfl, n2, c, rfl, rfl, cdiv_ok c0 cl n2, n1.fdiv a, n2.fdiv c, rfl, rfl, wide_mul m1 m3 (by decide) (by decide) (by decide), ?_⟩
      refine ⟨_, rfl, p, _, 1, _, rfl, rfl, h1.1, atI_nat (j := 1) rfl, _, rfl, d1, c, rfl, rfl, cdiv_ok c0 cl d1, _, rfl, q, _, 1, _, rfl, rfl, h2.1, atI_nat (j := 1) rfl, _, rfl, d2, a, rfl, rfl, cdiv_ok a0 al d2, d1.fdiv c, d2.fdiv a, rfl, rfl, wide_mul m4 m2 (by decide) (by decide) (by decide), small2, ?_⟩
      rw [← e.1, ← e.2] at k
      exact k
end
end SS

namespace SS
open PySem PySem.Spec PyProof.Rows L2
section
variable {P : Program} {w : World} {K : PySem.W.Frag} {mg : Str → Option Value} {base : Heap}
theorem scLPlus : FnScope ["_law_a", "_law_b"] ["_law_a", "_law_b"] (defScope sLPlus) := ⟨rfl, rfl, rfl, by decide +kernel, rfl, by decide +kernel, by decide +kernel⟩
theorem ok_lplus {f : Addr} {fd : FuncData} (F : Fun K "_law_plus" "_law_plus" sLPlus f fd) (fo : Cl P w K mg base CX0 2 "_law_frac" spFrac []) : FnOk P w K mg base CX0 3 f fd ["_law_a", "_law_b"] (spPlus K) := by
  refine F.ok scLPlus (fun vs H Q E h => ?_) (fun cdv A outer s H vs Q E hr h => ?_)
  · obtain ⟨_, _, _, _, ⟨p, q, rfl, _⟩, _⟩ := h
    rfl
  · obtain ⟨n1, d1, n2, d2, ⟨p, q, rfl, h1, h2, z1, z2, b1, b2, b3, b4, _, _⟩, k⟩ := h
    refine ⟨_, pss_one (ps_ret (pc0 fo hr (by decide) (pa_cons (pe_op op_add (pe_op op_mulW (pe_ix ix_tup (pv 0) pe_int (fun _ _ => rfl)) (pe_ix ix_tup (pv 1) pe_int (fun _ _ => rfl)))
      (pe_op op_mulW (pe_ix ix_tup (pv 1) pe_int (fun _ _ => rfl)) (pe_ix ix_tup (pv 0) pe_int (fun _ _ => rfl))))
      (pa_cons (pe_op op_mulW (pe_ix ix_tup (pv 0) pe_int (fun _ _ => rfl)) (pe_ix ix_tup (pv 1) pe_int (fun _ _ => rfl))) pa_nil)))), ?_⟩
    refine ⟨_, rfl, p, _, 0, _, rfl, rfl, h1.1, atI_nat (j := 0) rfl, _, rfl, q, _, 1, _, rfl, rfl, h2.1, atI_nat (j := 1) rfl, n1, d2, rfl, rfl, wide_mul b1 b4 (by decide) (by decide) (by decide), ?_⟩
    refine ⟨_, rfl, q, _, 0, _, rfl, rfl, h2.1, atI_nat (j := 0) rfl, _, rfl, p, _, 1, _, rfl, rfl, h1.1, atI_nat (j := 1) rfl, n2, d1, rfl, rfl, wide_mul b3 b2 (by decide) (by decide) (by decide), _, _, rfl, rfl, ?_⟩
    refine ⟨_, rfl, p, _, 1, _, rfl, rfl, h1.1, atI_nat (j := 1) rfl, _, rfl, q, _, 1, _, rfl, rfl, h2.1, atI_nat (j := 1) rfl, d1, d2, rfl, rfl, wide_mul b2 b4 (by decide) (by decide) (by decide), ?_⟩
    exact ⟨n1 * d2 + n2 * d1, d1 * d2, rfl, pos_ne z1 z2, sm_mono (sm_mul b2 b4) (by decide), k⟩
theorem scLTimes : FnScope ["_law_a", "_law_b"] ["_law_a", "_law_b"] (defScope sLTimes) := ⟨rfl, rfl, rfl, by decide +kernel, rfl, by decide +kernel, by decide +kernel⟩
theorem ok_ltimes {f : Addr} {fd : FuncData} (F : Fun K "_law_times" "_law_times" sLTimes f fd) (fo : Cl P w K mg base CX0 2 "_law_frac" spFrac []) : FnOk P w K mg base CX0 3 f fd ["_law_a", "_law_b"] (spTimes K) := by
  refine F.ok scLTimes (fun vs H Q E h => ?_) (fun cdv A outer s H vs Q E hr h => ?_)
  · obtain ⟨_, _, _, _, ⟨p, q, rfl, _⟩, _⟩ := h
    rfl
  · obtain ⟨n1, d1, n2, d2, ⟨p, q, rfl, h1, h2, z1, z2, b1, b2, b3, b4, _, _⟩, k⟩ := h
    refine ⟨_, pss_one (ps_ret (pc0 fo hr (by decide) (pa_cons (pe_op op_mulW (pe_ix ix_tup (pv 0) pe_int (fun _ _ => rfl)) (pe_ix ix_tup (pv 1) pe_int (fun _ _ => rfl)))
      (pa_cons (pe_op op_mulW (pe_ix ix_tup (pv 0) pe_int (fun _ _ => rfl)) (pe_ix ix_tup (pv 1) pe_int (fun _ _ => rfl))) pa_nil)))), ?_⟩
    refine ⟨_, rfl, p, _, 0, _, rfl, rfl, h1.1, atI_nat (j := 0) rfl, _, rfl, q, _, 0, _, rfl, rfl, h2.1, atI_nat (j := 0) rfl, n1, n2, rfl, rfl, wide_mul b1 b3 (by decide) (by decide) (by decide), ?_⟩
    refine ⟨_, rfl, p, _, 1, _, rfl, rfl, h1.1, atI_nat (j := 1) rfl, _, rfl, q, _, 1, _, rfl, rfl, h2.1, atI_nat (j := 1) rfl, d1, d2, rfl, rfl, wide_mul b2 b4 (by decide) (by decide) (by decide), ?_⟩
    exact ⟨n1 * n2, d1 * d2, rfl, pos_ne z1 z2, sm_mono (sm_mul b2 b4) (by decide), k⟩
end
end SS

namespace SS
open PySem PySem.Spec PyProof.Rows L2
/-! ### names: texts of one to six small letters -/
def NmOk (x : Str) : Prop := 0 < x.cps.toList.length ∧ x.cps.toList.length < 7 ∧ ∀ c ∈ x.cps.toList, 97 ≤ c ∧ c ≤ 122
instance (x : Str) : Decidable (NmOk x) := inferInstanceAs (Decidable (_ ∧ _ ∧ _))
abbrev abc : Str := "abcdefghijklmnopqrstuvwxyz"
abbrev ownL : List Str := ["is", "most", "least", "below", "above", "tell", "open", "none", "first", "point", "mark", "x"]
theorem own_ok : ∀ x ∈ ownL, NmOk x := by decide +kernel
theorem abc_len : abc.length = 26 := by decide +kernel
theorem abc_at : ∀ i : Nat, i < 26 → abc.cps[i]? = some (97 + i) := by decide +kernel
theorem join_ones : ∀ cs : List Nat, (Txt.join "" (cs.map fun c => (⟨#[c]⟩ : Str))).cps.toList = cs := fun cs => by
  have e := eq_of_beq (PyProof.Rows.join_plain_closes "" (cs.map fun c => (⟨#[c]⟩ : Str)))
  rw [e]
  have e2 : ∀ l : List (List Nat), TL.joinL [] l = l.flatten := fun l => by
    induction l with
    | nil => rfl
    | cons p r ih =>
      cases r with
      | nil => simp [TL.joinL]
      | cons q r => simp only [TL.joinL, List.nil_append, ih, List.flatten_cons]
  have e3 := TL.tl_join "" (cs.map fun c => (⟨#[c]⟩ : Str))
  refine e3.trans ?_
  rw [show TL.tl "" = [] from rfl, e2, List.map_map]
  clear e e3 e2
  induction cs with
  | nil => rfl
  | cons c cs ih =>
    rw [List.map_cons, List.flatten_cons]
    show c :: _ = c :: cs
    exact congrArg _ ih
/-- x * n of a text, n from 1 to 3 -/
theorem op_mulS {X : Cx} : OpR X (binaryOp .Mult) (fun x y H Q => ∃ (z : Str) (n : Int), x = .str z ∧ y = .int n ∧ 1 ≤ n ∧ n ≤ 3 ∧ z.length ≤ 6 ∧ ∀ z' : Str, z'.cps.toList = (List.replicate n.toNat z.cps.toList).flatten → Q (.str z') H) := by
  intro pins s σ H x y v u Q I rx ry h
  obtain ⟨z, n, rfl, rfl, n1, n3, zl, q⟩ := h
  obtain ⟨t, rfl⟩ := rx
  obtain ⟨t', rfl⟩ := ry
  refine P.mul_str ?_ (fun _ _ => ?_) (fun _ _ => ?_) ?_
  · rw [decide_eq_false (by omega), decide_eq_false (by omega)]
    rfl
  · have : n = 1 ∨ n = 2 ∨ n = 3 := by omega
    rcases this with e | e | e <;> subst e <;> omega
  · have : n = 1 ∨ n = 2 ∨ n = 3 := by omega
    have zz : ∀ m : Nat, m ≤ 18 → Builtin.Str.tooLong m = false := fun m hm => by
      unfold Builtin.Str.tooLong
      exact decide_eq_false (by
        have : sizeLine = 16777216 := sizeLine_eq
        omega)
    rcases this with e | e | e <;> subst e <;> exact zz _ (by simp; omega)
  · rw [if_neg (by omega)]
    by_cases c : (n == 1 || z.length == 0) = true
    · rw [if_pos c]
      refine ⟨.str z, H, I, ⟨t, rfl⟩, q z ?_⟩
      rw [Bool.or_eq_true, beq_iff_eq, beq_iff_eq] at c
      rcases c with c | c
      · subst c
        simp
      · have : z.cps.toList = [] := by
          apply List.eq_nil_of_length_eq_zero
          rw [Array.length_toList]
          exact c
        rw [this]
        simp
    · rw [if_neg c]
      have : n = 1 ∨ n = 2 ∨ n = 3 := by omega
      have sl : sizeLine = 16777216 := sizeLine_eq
      have zl' : z.cps.size ≤ 6 := zl
      refine ⟨?_, ⟨.str _, H, I.tok _, ⟨_, rfl⟩, q _ ?_⟩⟩
      · show Array.size _ ≤ sizeLine
        rw [sl]
        rcases this with e | e | e <;> subst e <;> simp [List.replicate] <;> omega
      · rcases this with e | e | e <;> subst e <;> simp [List.replicate]
end SS

namespace SS
open PySem PySem.Spec PyProof.Rows L2
theorem lt8 {n : Int} (h : n.natAbs < 2 ^ 100) : n.natAbs < 2 ^ 8000 := sm_mono h (by decide)
theorem cut1S {z : Str} (h : 0 < z.cps.toList.length) : (cutS z none (some 1)).cps.toList = z.cps.toList.take 1 := by
  unfold cutS
  have hl : z.length = z.cps.toList.length := by
    rw [Array.length_toList]
    rfl
  rw [HT.sIx_none, show HT.sIx z.length z.length (some 1) = min 1 z.length from HT.sIx_nat z.length z.length 1, hl, Nat.min_eq_left h]
  rfl
theorem NmOk.cut {z : Str} (h : NmOk z) : NmOk (cutS z none (some 1)) := by
  obtain ⟨h1, h2, h3⟩ := h
  unfold NmOk
  rw [cut1S h1, List.length_take]
  exact ⟨by omega, by omega, fun c hc => h3 c (List.mem_of_mem_take hc)⟩
theorem NmOk.len {z : Str} (h : NmOk z) : z.length ≤ sizeLine := by
  have e : z.length = z.cps.toList.length := by
    rw [Array.length_toList]
    rfl
  have sl : sizeLine = 16777216 := sizeLine_eq
  have := h.2.1
  omega
theorem at_str {xs : List Str} {d : Int} (h0 : 0 ≤ d) (h : d < xs.length) : ∃ x, x ∈ xs ∧ atI (xs.map V.str) d = some (.str x) := by
  have hn : d.toNat < xs.length := by omega
  refine ⟨xs[d.toNat], List.getElem_mem hn, at_of (j := d.toNat) (by omega) ?_⟩
  rw [List.getElem?_map, List.getElem?_eq_getElem hn]
  rfl
section
variable {P : Program} {w : World} {K : PySem.W.Frag} {mg : Str → Option Value} {base : Heap}
def spSname : Sp := fun vs H Q _ => ∃ st c : Addr, vs = [.ref st] ∧ StA st c H ∧ ∀ H' x, But st H H' → StA st c H' → NmOk x → Q (.str x) H'
theorem scSname : FnScope ["_law_state", "_law_letters", "_law_own", "_law_way", "_law_word", "_law_k"] ["_law_state"] (defScope sSname) := ⟨rfl, rfl, rfl, by decide +kernel, rfl, by decide +kernel, by decide +kernel⟩
theorem ok_sname {f : Addr} {fd : FuncData} (F : Fun K "_law_some_name" "_law_some_name" sSname f fd) (mr : mg "range" = none) (tk : Cl P w K mg base CX0 3 "_law_take" spTake []) : FnOk P w K mg base CX0 4 f fd ["_law_state"] spSname := by
  refine F.ok scSname (fun vs H Q E h => ?_) (fun cdv A outer s H vs Q E hr h => ?_)
  · obtain ⟨_, _, rfl, _⟩ := h
    rfl
  · obtain ⟨st, c, rfl, sa, q⟩ := h
    refine ⟨_, pss_cons (ps_set (i := 1) scSname.nd rfl (.inr rfl) pe_str)
      (pss_cons (ps_set (i := 2) scSname.nd rfl (.inl rfl) (pe_tup (pa_cons pe_str (pa_cons pe_str (pa_cons pe_str (pa_cons pe_str (pa_cons pe_str (pa_cons pe_str (pa_cons pe_str (pa_cons pe_str (pa_cons pe_str (pa_cons pe_str (pa_cons pe_str (pa_cons pe_str pa_nil))))))))))))))
      (pss_cons (ps_set (i := 3) scSname.nd rfl (.inl rfl) (pc0 tk hr (by decide) (pa_cons (pv 0) (pa_cons pe_int pa_nil))))
      (pss_cons (ps_set (i := 4) scSname.nd rfl (.inl rfl) (pe_join pe_str
        (pe_lc (own := [("_law_k", 5)]) (g := gName 5) (tt := tYes) rfl scSname.nd (pi_range1 rfl mr (pa_cons (pe_op op_add pe_int (pc0 tk hr (by decide) (pa_cons (pv 0) (pa_cons pe_int pa_nil)))) pa_nil)) (blkOk_by (by rfl))
          (fun _ _ _ _ _ => pg_name (i := 5) scSname.nd rfl (Or.inl rfl)) (fun _ _ _ _ _ => pts_nil)
          (fun _ _ _ _ _ => pe_item_str (pv 1) (pc0 tk hr (by decide) (pa_cons (pv 0) (pa_cons pe_int pa_nil))) (fun _ _ => rfl)))))
      (pss_one (ps_ret (pe_ix ix_tup (pe_tup (pa_cons (pv 4) (pa_cons (pe_ix ix_tup (pv 2) (pc0 tk hr (by decide) (pa_cons (pv 0) (pa_cons pe_int pa_nil))) (fun _ _ => rfl)) (pa_cons (pe_slice sl_str (pv 4) po_none (po_some pe_int)) (pa_cons (pv 4) pa_nil))))) (pv 3) (fun _ _ => rfl))))))), ?_⟩
    refine ⟨by show 12 ≤ sizeLine; decide, fun U nU => ?_⟩
    have sU := same_new (o := .tup (ownL.map V.str)) nU
    refine ⟨_, rfl, st, c, 4, rfl, by decide, lt8 (by decide), sa.same sU, fun H1 wy b1 s1 l1 u1 => ?_⟩
    have hU1 : H1 U = some (.tup (ownL.map V.str)) := b1.tup (sa.same sU) upd_same
    refine ⟨⟨_, rfl⟩, _, rfl, st, c, 6, rfl, by decide, lt8 (by decide), s1, fun H2 d2 b2 s2 l2 u2 => ⟨1, d2, rfl, rfl, 1 + d2, rfl, by omega, by omega, fun D nD => ?_⟩⟩
    have hU2 : H2 U = some (.tup (ownL.map V.str)) := b2.tup s1 hU1
    have Ds := s2.fresh nD
    have Dc := s2.fresh2 nD
    refine lc_range (lo := 0) (n := (1 + d2).toNat) (fun i H' => ∃ cs : List Nat, H' D = some (.lst ((cs.map fun c => (⟨#[c]⟩ : Str)).map V.str)) ∧ cs.length = i ∧ (∀ c ∈ cs, 97 ≤ c ∧ c ≤ 122) ∧ StA st c H' ∧ ∀ b o, b ≠ st → b ≠ D → H2 b = some o → H' b = some o)
      ⟨[], upd_same, rfl, fun c hc => absurd hc List.not_mem_nil, s2.other Ds Dc, fun b o _ nb e => by rw [upd_ne nb]; exact e⟩ ?_ ?_
    · rintro i H3 hi ⟨cs, k1, k2, k3, k4, k5⟩
      refine ⟨rfl, _, rfl, _, rfl, st, c, 26, rfl, by decide, lt8 (by decide), k4, fun H4 d4 b4 s4 l4 u4 => ?_⟩
      have hD4 := b4 _ _ Ds k1
      refine ⟨abc, d4, 97 + d4.toNat, rfl, rfl, l4, by omega, by rw [abc_len]; omega, abc_at _ (by omega), _, hD4, ?_, cs ++ [97 + d4.toNat], ?_, ?_, ?_, s4.other Ds Dc, ?_⟩
      · rw [List.length_map, List.length_map, k2]
        exact small1000 (by omega)
      · rw [upd_same, List.map_append, List.map_append]
        rfl
      · rw [List.length_append, k2]
        rfl
      · intro x hx
        rcases List.mem_append.mp hx with z | z
        · exact k3 x z
        · rw [List.mem_singleton.mp z]
          omega
      · intro b o n1 n2 e
        rw [upd_ne n2]
        exact b4 b o n1 (k5 b o n1 n2 e)
    · rintro H3 ⟨cs, k1, k2, k3, k4, k5⟩
      refine ⟨_, D, cs.map fun c => (⟨#[c]⟩ : Str), rfl, rfl, .inl (SqL.of k1), ?_, ?_⟩
      · have e1 : ((cs.map fun c => (⟨#[c]⟩ : Str)).map (·.length)).sum = cs.length := by
          rw [List.map_map]
          clear k1 k2 k3
          induction cs with
          | nil => rfl
          | cons a r ih =>
            rw [List.map_cons, List.sum_cons, ih, List.length_cons]
            show 1 + r.length = r.length + 1
            omega
        rw [e1, List.length_map, k2]
        show (1 + d2).toNat + (1 + d2).toNat * 0 ≤ 16777216
        omega
      have hw : NmOk (Txt.join "" (cs.map fun c => (⟨#[c]⟩ : Str))) := by
        unfold NmOk
        rw [join_ones, k2]
        exact ⟨by omega, by omega, k3⟩
      generalize Txt.join "" (cs.map fun c => (⟨#[c]⟩ : Str)) = word at hw
      have hU3 := k5 U _ (s1.tup hU1 ) (fun e => by
        rw [e, nD] at hU2
        cases hU2) hU2
      refine ⟨_, rfl, _, rfl, _, rfl, st, c, 12, rfl, by decide, lt8 (by decide), k4, fun H5 d5 b5 s5 l5 u5 => ?_⟩
      obtain ⟨ow, ho1, ho2⟩ := at_str (xs := ownL) l5 u5
      refine ⟨U, _, d5, _, rfl, rfl, SqT.of (b5.tup k4 hU3), ho2, _, rfl, 1, rfl, word, rfl, hw.len, _, rfl, by show 4 ≤ sizeLine; decide, fun T nT => ?_⟩
      have sT := same_new (o := .tup [.str word, .str ow, .str (cutS word none (some 1)), .str word]) nT
      obtain ⟨x, hx1, hx2⟩ : ∃ x, NmOk x ∧ atI [V.str word, V.str ow, V.str (cutS word none (some 1)), V.str word] wy = some (.str x) := by
        rcases (show wy = 0 ∨ wy = 1 ∨ wy = 2 ∨ wy = 3 by omega) with e | e | e | e <;> subst e
        · exact ⟨_, hw, rfl⟩
        · exact ⟨_, own_ok _ ho1, rfl⟩
        · exact ⟨_, hw.cut, rfl⟩
        · exact ⟨_, hw, rfl⟩
      refine ⟨_, rfl, T, _, wy, _, rfl, rfl, SqT.of upd_same, hx2, q _ x ?_ (s5.same sT) hx1⟩
      intro b o nb e
      refine sT _ _ (b5 _ _ nb (k5 _ _ nb ?_ (b2 _ _ nb (b1 _ _ nb (sU _ _ e)))))
      intro z
      have e2 := b2 _ _ nb (b1 _ _ nb (sU _ _ e))
      rw [z, nD] at e2
      cases e2
end
end SS

namespace SS
open PySem PySem.Spec PyProof.Rows L2
section
variable {P : Program} {w : World} {K : PySem.W.Frag} {mg : Str → Option Value} {base : Heap}
def spNames : Sp := fun vs H Q _ => ∃ (st c : Addr) (many : Int), vs = [.ref st, .int many] ∧ 0 ≤ many ∧ many ≤ 10 ∧ StA st c H ∧
  ∀ H' l (xs : List Str), But st H H' → StA st c H' → H l = none → H' l = some (.lst (xs.map V.str)) → (xs.length : Int) = many → (∀ x ∈ xs, NmOk x) → Q (.ref l) H'
theorem scNames : FnScope ["_law_state", "_law_many", "_law_letters", "_law_names_here", "_law_k", "_law_name", "_law_turns"] ["_law_state", "_law_many"] (defScope sNames) := ⟨rfl, rfl, rfl, by decide +kernel, rfl, by decide +kernel, by decide +kernel⟩
theorem flat_strs (xs : List Str) : (xs.map V.str).all flatV = true := by
  rw [List.all_map]
  exact List.all_eq_true.mpr fun _ _ => rfl
theorem ok_names {f : Addr} {fd : FuncData} (F : Fun K "_law_names" "_law_names" sNames f fd) (mr : mg "range" = none) (sn : Cl P w K mg base CX0 4 "_law_some_name" spSname []) : FnOk P w K mg base CX0 5 f fd ["_law_state", "_law_many"] spNames := by
  refine F.ok scNames (fun vs H Q E h => ?_) (fun cdv A outer s H vs Q E hr h => ?_)
  · obtain ⟨_, _, _, rfl, _⟩ := h
    rfl
  · obtain ⟨st, c, many, rfl, m0, m1, sa, q⟩ := h
    refine ⟨_, pss_cons (ps_set (i := 2) scNames.nd rfl (.inl rfl) pe_str)
      (pss_cons (ps_set (i := 3) scNames.nd rfl (.inl rfl) (pe_lst pa_nil))
      (pss_cons (ps_for PassesOwn.never rfl (pi_range1 rfl mr (pa_cons (pv 1) pa_nil)) (pg_name (i := 4) scNames.nd rfl (.inl rfl))
        (pss_cons (ps_set (i := 5) scNames.nd rfl (.inl rfl) (pc0 sn hr (by decide) (pa_cons (pv 0) pa_nil)))
        (pss_cons (ps_set (i := 6) scNames.nd rfl (.inl rfl) pe_int)
        (pss_cons (ps_while PassesOwn.never (PW.pt (pw_and (pt_cmpR op_in_seq (pv 5) (pv 3) rfl) (pw_and1 (pt_cmpR op_lt (pv 6) pe_int (nomark _)))))
          (pss_cons (ps_set (i := 5) scNames.nd rfl (.inl rfl) (pe_op op_mulS (pe_item_str (pv 2) (pe_op op_mod (pe_op op_add (pe_op op_mul pe_int (pv 6)) (pv 4)) pe_int) (fun _ _ => rfl)) (pe_op op_add pe_int (pe_op op_fdiv (pv 6) pe_int))))
          (pss_one (ps_aug (i := 6) scNames.nd rfl (.inl rfl) pe_int ip_add))))
        (pss_one (ps_expr (pe_bm PySem.F.plainAttrs_list PySem.F.slot_list_append PySem.F.type_list_append mt_append (pv 3) (pa_cons (pv 5) pa_nil))))))))
      (pss_one (ps_ret (pv 3))))), ?_⟩
    refine ⟨Nat.zero_le _, fun l nl => ?_⟩
    have ls := sa.fresh nl
    have lc := sa.fresh2 nl
    refine ⟨_, rfl, many, rfl, by omega, by omega, for_range (n := many.toNat) (fun i σ H' => ∃ (y4 y5 y6 : Option V) (xs : List Str), σ = [some (.ref st), some (.int many), some (.str abc), some (.ref l), y4, y5, y6] ∧ But st H H' ∧ StA st c H' ∧ H' l = some (.lst (xs.map V.str)) ∧ xs.length = i ∧ ∀ x ∈ xs, NmOk x)
      ⟨none, none, none, [], rfl, Same.but (same_new nl), sa.same (same_new nl), upd_same, rfl, fun x hx => absurd hx List.not_mem_nil⟩ ?_ ?_⟩
    · rintro i σ H1 hi ⟨y4, y5, y6, xs, rfl, bt, s1, hl, hn, hx⟩
      refine ⟨_, rfl, st, c, rfl, s1, fun H2 x b2 s2 ok => ?_⟩
      have hl2 := b2 _ _ ls hl
      refine ⟨fun m σ H' => ∃ (nm : Str) (tn : Int), σ = [some (.ref st), some (.int many), some (.str abc), some (.ref l), some (.int (0 + (i : Nat))), some (.str nm), some (.int tn)] ∧ H' = H2 ∧ NmOk nm ∧ 0 ≤ tn ∧ m = (60 - tn).toNat,
        ⟨60, x, 0, rfl, rfl, ok, by decide, rfl⟩, fun m σ H3 hW => ?_⟩
      obtain ⟨nm, tn, rfl, rfl, okn, t0, rfl⟩ := hW
      refine ⟨_, rfl, _, rfl, l, _, rfl, .inl (SqL.of hl2), rfl, flat_strs xs, _, rfl, ite2 (fun e => ?n1) (fun e => iteF ?ex1)⟩
      case' n1 => refine ⟨_, rfl, tn, 60, rfl, rfl, _, rfl, ite2 (fun e2 => ?_) (fun e2 => ?ex2)⟩
      case ex1 | ex2 =>
        refine ⟨.ref l, rfl, .inl ⟨rfl, _, SqL.of hl2⟩, _, rfl, l, _, _, rfl, rfl, hl2, ?_, ?_⟩
        · rw [List.length_map, hn]
          exact small1000 (by omega)
        · refine ⟨_, _, _, xs ++ [nm], rfl, ?_, s2.other ls lc, ?_, ?_, ?_⟩
          · intro b o nb e
            rw [upd_ne fun z => ?_]
            · exact (bt.trans b2) b o nb e
            · rw [z, nl] at e
              cases e
          · rw [upd_same, List.map_append]
            rfl
          · rw [List.length_append, hn]
            rfl
          · intro y hy
            rcases List.mem_append.mp hy with z | z
            · exact hx y z
            · rw [List.mem_singleton.mp z]
              exact okn
      · have e' : tn < 60 := of_decide_eq_true e2
        refine ⟨fun σ' H' => ∃ (nm : Str) (tn' : Int), σ' = [some (.ref st), some (.int many), some (.str abc), some (.ref l), some (.int (0 + (i : Nat))), some (.str nm), some (.int tn')] ∧ H' = H3 ∧ NmOk nm ∧ 0 ≤ tn' ∧ tn' = tn + 1, fun σ' H' hN => ?_, ?_⟩
        · obtain ⟨a1, a2, r1, r2, r3, r4, r5⟩ := hN
          exact ⟨_, by omega, a1, a2, r1, r2, r3, r4, rfl⟩
        · have q1 : 0 ≤ (7 * tn + (0 + (i : Int))) % 26 := Int.emod_nonneg _ (by decide)
          have q2 : (7 * tn + (0 + (i : Int))) % 26 < 26 := Int.emod_lt_of_pos _ (by decide)
          refine ⟨_, rfl, _, rfl, 7, tn, rfl, rfl, .inl ⟨by decide, by decide⟩, _, rfl, 7 * tn, 0 + (i : Int), rfl, rfl, _, 26, rfl, rfl, (by show (0 : Int) < 26; decide), abc, (7 * tn + (0 + (i : Int))) % 26, _, rfl, rfl, q1, by omega, by rw [abc_len]; omega, abc_at _ (by omega), ?_⟩
          refine ⟨_, rfl, tn, 26, rfl, rfl, ⟨by decide, by decide⟩, 1, tn / 26, rfl, rfl, _, 1 + tn / 26, rfl, rfl, by omega, by omega, by show 1 ≤ 6; decide, fun z hz => ?_⟩
          refine ⟨_, rfl, _, _, rfl, rfl, z, tn + 1, rfl, rfl, ?_, by omega, rfl⟩
          unfold NmOk
          have ec : ((1 + tn / 26).toNat) = 1 ∨ ((1 + tn / 26).toNat) = 2 ∨ ((1 + tn / 26).toNat) = 3 := by omega
          rw [hz]
          rcases ec with e3 | e3 | e3 <;> rw [e3] <;> simp [List.replicate] <;> omega
    · rintro σ H1 ⟨y4, y5, y6, xs, rfl, bt, s1, hl, hn, hx⟩
      exact ⟨_, rfl, q H1 l xs bt s1 nl hl (by omega) hx⟩
end
end SS

namespace SS
open PySem PySem.Spec PyProof.Rows L2
/-- a fraction in lowest terms, of few bits -/
def Frg (k : Nat) (H : Hp) (p : Addr) : Prop := ∃ n d : Int, H p = some (.tup [.int n, .int d]) ∧ 0 < d ∧ n.natAbs < 2 ^ k ∧ d.natAbs < 2 ^ k ∧ Int.gcd n d = 1
theorem Frg.same {k : Nat} {p : Addr} {H H' : Hp} (s : Frg k H p) (x : Same H H') : Frg k H' p := by
  obtain ⟨n, d, h1, h2⟩ := s
  exact ⟨n, d, x _ _ h1, h2⟩
theorem Frg.but {k : Nat} {st c p : Addr} {H H' : Hp} (s : Frg k H p) (x : But st H H') (y : StA st c H) : Frg k H' p := by
  obtain ⟨n, d, h1, h2⟩ := s
  exact ⟨n, d, x.tup y h1, h2⟩
theorem Frg.mono {k j : Nat} {p : Addr} {H : Hp} (s : Frg k H p) (h : k ≤ j) : Frg j H p := by
  obtain ⟨n, d, h1, h2, h3, h4, h5⟩ := s
  exact ⟨n, d, h1, h2, sm_mono h3 h, sm_mono h4 h, h5⟩
/-- a dict changes: the tuples stand -/
theorem Frg.dict {k : Nat} {p a : Addr} {H : Hp} {kvs : List (Key × V)} {o : HO} (s : Frg k H p) (h : H a = some (.dK kvs)) : Frg k (upd H a o) p := by
  obtain ⟨n, d, h1, h2⟩ := s
  refine ⟨n, d, ?_, h2⟩
  rw [upd_ne fun e => ?_]
  · exact h1
  · rw [e, h] at h1
    cases h1
theorem frg_new {H : Hp} {r : Addr} {t b : Int} {k : Nat} (h : b ≠ 0) (ht : t.natAbs < 2 ^ k) (hb : b.natAbs < 2 ^ k) : Frg k (upd H r (.tup [.int (fr1 t b), .int (fr2 t b)])) r :=
  ⟨_, _, upd_same, fr2_pos h, Nat.lt_of_le_of_lt (fr1_le h) ht, Nat.lt_of_le_of_lt (fr2_le h) hb, fr_gcd h⟩
def fval (H : Hp) : V → Int × Int
  | .ref r => match H r with
    | some (.tup [.int n, .int d]) => (n, d)
    | _ => (0, 1)
  | _ => (0, 1)
theorem fval_at {H : Hp} {r : Addr} {n d : Int} (h : H r = some (.tup [.int n, .int d])) : fval H (.ref r) = (n, d) := by
  simp only [fval, h]
theorem Frg.val {k : Nat} {H : Hp} {r : Addr} (h : Frg k H r) : H r = some (.tup [.int (fval H (.ref r)).1, .int (fval H (.ref r)).2]) ∧ 0 < (fval H (.ref r)).2 ∧ (fval H (.ref r)).1.natAbs < 2 ^ k ∧ (fval H (.ref r)).2.natAbs < 2 ^ k ∧ Int.gcd (fval H (.ref r)).1 (fval H (.ref r)).2 = 1 := by
  obtain ⟨n, d, h1, h2⟩ := h
  rw [fval_at h1]
  exact ⟨h1, h2⟩
theorem Frg.fval {k : Nat} {H H' : Hp} {r : Addr} (h : Frg k H r) (e : ∀ xs, H r = some (.tup xs) → H' r = some (.tup xs)) : SS.fval H' (.ref r) = SS.fval H (.ref r) := by
  obtain ⟨n, d, h1, _⟩ := h
  rw [fval_at h1, fval_at (e _ h1)]
/-! ### dicts from names to fractions -/
def DF (k m : Nat) (H : Hp) (a : Addr) (kvs : List (Key × V)) : Prop := H a = some (.dK kvs) ∧ (kvs.map (·.1)).Nodup ∧ kvs.length ≤ m ∧ ∀ p ∈ kvs, ∃ x r, p.1 = .inr x ∧ NmOk x ∧ p.2 = .ref r ∧ Frg k H r
def NZ (H : Hp) (kvs : List (Key × V)) : Prop := ∀ p ∈ kvs, (fval H p.2).1 ≠ 0
theorem mem_putK {kvs : List (Key × V)} {k : Key} {v : V} {p : Key × V} (h : p ∈ putK kvs k v) : p ∈ kvs ∨ p = (k, v) := by
  unfold putK at h
  split at h
  · obtain ⟨q, hq, e⟩ := List.mem_map.mp h
    split at e
    · rename_i e1
      rw [e1] at e
      exact .inr e.symm
    · rw [← e]
      exact .inl hq
  · rcases List.mem_append.mp h with z | z
    · exact .inl z
    · exact .inr (List.mem_singleton.mp z)
theorem nd_put {kvs : List (Key × V)} (k : Key) (v : V) (h : (kvs.map (·.1)).Nodup) : ((putK kvs k v).map (·.1)).Nodup := by
  cases e : valV kvs k with
  | none => exact nd_putK v h e
  | some u =>
    unfold putK
    rw [valV_any, e]
    show ((kvs.map fun kv => if kv.1 = k then (kv.1, v) else kv).map (·.1)).Nodup
    rw [List.map_map]
    have q : ((fun x : Key × V => x.1) ∘ fun kv : Key × V => if kv.1 = k then (kv.1, v) else kv) = fun kv => kv.1 := by
      funext kv
      show (if kv.1 = k then (kv.1, v) else kv).1 = kv.1
      split <;> rfl
    rw [q]
    exact h
theorem DF.same {k m : Nat} {H H' : Hp} {a : Addr} {kvs : List (Key × V)} (h : DF k m H a kvs) (s : Same H H') : DF k m H' a kvs := by
  obtain ⟨h1, h2, h3, h4⟩ := h
  refine ⟨s _ _ h1, h2, h3, fun p hp => ?_⟩
  obtain ⟨x, r, e1, e2, e3, e4⟩ := h4 p hp
  exact ⟨x, r, e1, e2, e3, e4.same s⟩
theorem DF.ne {k m : Nat} {H : Hp} {st c a : Addr} {kvs : List (Key × V)} (h : DF k m H a kvs) (y : StA st c H) : a ≠ st := fun e => by
  obtain ⟨i, n, f, xs, h1, _⟩ := y
  have z := h.1
  rw [e, h1] at z
  cases z
theorem DF.but {k m : Nat} {H H' : Hp} {st c a : Addr} {kvs : List (Key × V)} (h : DF k m H a kvs) (s : But st H H') (y : StA st c H) : DF k m H' a kvs := by
  have na := h.ne y
  obtain ⟨h1, h2, h3, h4⟩ := h
  refine ⟨s _ _ na h1, h2, h3, fun p hp => ?_⟩
  obtain ⟨x, r, e1, e2, e3, e4⟩ := h4 p hp
  exact ⟨x, r, e1, e2, e3, e4.but s y⟩
theorem NZ.but {k m : Nat} {H H' : Hp} {st c a : Addr} {kvs : List (Key × V)} (z : NZ H kvs) (h : DF k m H a kvs) (s : But st H H') (y : StA st c H) : NZ H' kvs := fun p hp => by
  obtain ⟨x, r, e1, e2, e3, e4⟩ := h.2.2.2 p hp
  rw [e3, e4.fval fun xs e => s.tup y e, ← e3]
  exact z p hp
theorem NZ.same {k m : Nat} {H H' : Hp} {a : Addr} {kvs : List (Key × V)} (z : NZ H kvs) (h : DF k m H a kvs) (s : Same H H') : NZ H' kvs := fun p hp => by
  obtain ⟨x, r, e1, e2, e3, e4⟩ := h.2.2.2 p hp
  rw [e3, e4.fval fun xs e => s _ _ e, ← e3]
  exact z p hp
theorem DF.put {k m : Nat} {H : Hp} {a : Addr} {kvs : List (Key × V)} {x : Str} {r : Addr} (h : DF k m H a kvs) (hx : NmOk x) (hr : Frg k H r) (hl : kvs.length < m) : DF k m (upd H a (.dK (putK kvs (.inr x) (.ref r)))) a (putK kvs (.inr x) (.ref r)) := by
  obtain ⟨h1, h2, h3, h4⟩ := h
  refine ⟨upd_same, nd_put _ _ h2, Nat.le_trans (length_putK ..) hl, fun p hp => ?_⟩
  rcases mem_putK hp with z | z
  · obtain ⟨y, r', e1, e2, e3, e4⟩ := h4 p z
    exact ⟨y, r', e1, e2, e3, e4.dict h1⟩
  · subst z
    exact ⟨x, r, rfl, hx, rfl, hr.dict h1⟩
theorem NZ.put {k m : Nat} {H : Hp} {a : Addr} {kvs : List (Key × V)} {x : Str} {r : Addr} (z : NZ H kvs) (h : DF k m H a kvs) (hr : Frg k H r) (hz : (fval H (.ref r)).1 ≠ 0) : NZ (upd H a (.dK (putK kvs (.inr x) (.ref r)))) (putK kvs (.inr x) (.ref r)) := fun p hp => by
  have keep : ∀ r' xs, H r' = some (.tup xs) → (upd H a (.dK (putK kvs (.inr x) (.ref r)))) r' = some (.tup xs) := fun r' xs e => by
    rw [upd_ne fun c => ?_]
    · exact e
    · rw [c, h.1] at e
      cases e
  rcases mem_putK hp with y | y
  · obtain ⟨_, r', e1, e2, e3, e4⟩ := h.2.2.2 p y
    rw [e3, e4.fval (keep r'), ← e3]
    exact z p y
  · subst y
    rw [hr.fval (keep r)]
    exact hz
theorem strs_ne {st c u : Addr} {H : Hp} {xs : List Str} (y : StA st c H) (h : H u = some (.lst (xs.map V.str))) : u ≠ st := fun e => by
  obtain ⟨i, n, f, ys, h1, _⟩ := y
  rw [e, h1] at h
  have z := HO.lst.inj (Option.some.inj h)
  cases xs with
  | nil => cases z
  | cons a r => cases (List.cons.inj z).1
section
variable {P : Program} {w : World} {K : PySem.W.Frag} {mg : Str → Option Value} {base : Heap}
def spNumber : Sp := fun vs H Q _ => ∃ st c : Addr, vs = [.ref st] ∧ StA st c H ∧ ∀ H' p, But st H H' → StA st c H' → Frg 20 H' p → Q (.ref p) H'
theorem scNumber : FnScope ["_law_state", "_law_way", "_law_small", "_law_great", "_law_under"] ["_law_state"] (defScope sNumber) := ⟨rfl, rfl, rfl, by decide +kernel, rfl, by decide +kernel, by decide +kernel⟩
theorem ok_number {f : Addr} {fd : FuncData} (F : Fun K "_law_number" "_law_number" sNumber f fd) (tk : Cl P w K mg base CX0 3 "_law_take" spTake []) (fc : Cl P w K mg base CX0 2 "_law_frac" spFrac []) : FnOk P w K mg base CX0 4 f fd ["_law_state"] spNumber := by
  refine F.ok scNumber (fun vs H Q E h => ?_) (fun cdv A outer s H vs Q E hr h => ?_)
  · obtain ⟨_, _, rfl, _⟩ := h
    rfl
  · obtain ⟨st, c, rfl, sa, q⟩ := h
    refine ⟨_, pss_cons (ps_set (i := 1) scNumber.nd rfl (.inl rfl) (pc0 tk hr (by decide) (pa_cons (pv 0) (pa_cons pe_int pa_nil))))
      (pss_cons (ps_set (i := 2) scNumber.nd rfl (.inl rfl) (pe_op op_sub (pc0 tk hr (by decide) (pa_cons (pv 0) (pa_cons pe_int pa_nil))) pe_int))
      (pss_cons (ps_set (i := 3) scNumber.nd rfl (.inl rfl) (pe_op op_sub (pc0 tk hr (by decide) (pa_cons (pv 0) (pa_cons pe_int pa_nil))) pe_int))
      (pss_cons (ps_set (i := 4) scNumber.nd rfl (.inl rfl) (pe_op op_add pe_int (pc0 tk hr (by decide) (pa_cons (pv 0) (pa_cons pe_int pa_nil)))))
      (pss_cons (ps_if (pt_cmpR op_eq (pv 1) pe_int (nomark _)) (pss_one (ps_ret (pe_tup (pa_cons pe_int (pa_cons pe_int pa_nil))))) pss_nil)
      (pss_cons (ps_if (pt_cmpR op_eq (pv 1) pe_int (nomark _)) (pss_one (ps_ret (pc0 fc hr (by decide) (pa_cons (pv 3) (pa_cons (pv 4) pa_nil))))) pss_nil)
      (pss_cons (ps_if (pt_cmpR op_eq (pv 1) pe_int (nomark _)) (pss_one (ps_ret (pc0 fc hr (by decide) (pa_cons (pv 2) (pa_cons (pe_op op_add pe_int (pe_op op_mod (pv 4) pe_int)) pa_nil))))) pss_nil)
      (pss_one (ps_ret (pe_tup (pa_cons (pv 2) (pa_cons pe_int pa_nil))))))))))), ?_⟩
    refine ⟨_, rfl, st, c, 6, rfl, by decide, lt8 (by decide), sa, fun H1 d1 b1 s1 l1 u1 => ?_⟩
    refine ⟨_, rfl, st, c, 13, rfl, by decide, lt8 (by decide), s1, fun H2 d2 b2 s2 l2 u2 => ⟨_, _, rfl, rfl, ?_⟩⟩
    refine ⟨_, rfl, st, c, 1999, rfl, by decide, lt8 (by decide), s2, fun H3 d3 b3 s3 l3 u3 => ⟨_, _, rfl, rfl, ?_⟩⟩
    refine ⟨_, rfl, st, c, 99, rfl, by decide, lt8 (by decide), s3, fun H4 d4 b4 s4 l4 u4 => ⟨_, _, rfl, rfl, ?_⟩⟩
    have bb := ((b1.trans b2).trans b3).trans b4
    refine ⟨_, rfl, rfl, _, rfl, ite2 (fun _ => ?_) (fun _ => ?_)⟩
    · refine ⟨small2, fun p np => q _ p (bb.trans (Same.but (same_new np))) (s4.same (same_new np)) ⟨0, 1, upd_same, by decide, by decide, by decide, by decide⟩⟩
    · refine ⟨_, rfl, rfl, _, rfl, ite2 (fun _ => ?_) (fun _ => ?_)⟩
      · have n1 : 1 + d4 ≠ 0 := by omega
        have n2 : (1 + d4).natAbs < 2 ^ 20 := by omega
        refine ⟨_, rfl, _, rfl, d3 - 999, 1 + d4, rfl, n1, sm_mono n2 (by decide), fun p np => q _ p (bb.trans (Same.but (same_new np))) (s4.same (same_new np)) (frg_new n1 (by omega) n2)⟩
      · refine ⟨_, rfl, rfl, _, rfl, ite2 (fun _ => ?_) (fun _ => ?_)⟩
        · have n1 : 1 + (1 + d4) % 4 ≠ 0 := by omega
          have n2 : (1 + (1 + d4) % 4).natAbs < 2 ^ 20 := by omega
          refine ⟨_, rfl, _, rfl, 1 + d4, 4, rfl, rfl, (by show (0 : Int) < 4; decide), 1, (1 + d4) % 4, rfl, rfl, d2 - 6, 1 + (1 + d4) % 4, rfl, n1, sm_mono n2 (by decide), fun p np => q _ p (bb.trans (Same.but (same_new np))) (s4.same (same_new np)) (frg_new n1 (by omega) n2)⟩
        · refine ⟨_, rfl, small2, fun p np => q _ p (bb.trans (Same.but (same_new np))) (s4.same (same_new np)) ⟨d2 - 6, 1, upd_same, by decide, by omega, by decide, Int.gcd_one_right _⟩⟩
end
end SS

namespace SS
open PySem PySem.Spec PyProof.Rows L2
section
variable {P : Program} {w : World} {K : PySem.W.Frag} {mg : Str → Option Value} {base : Heap}
/-! ### a drawn sum -/
def spSsum : Sp := fun vs H Q _ => ∃ (st c u : Addr) (xs : List Str), vs = [.ref st, .ref u] ∧ StA st c H ∧ H u = some (.lst (xs.map V.str)) ∧ xs.length ≤ 9 ∧ (∀ x ∈ xs, NmOk x) ∧
  ∀ H' a kvs, But st H H' → StA st c H' → H a = none → DF 20 (xs.length + 1) H' a kvs → NZ H' kvs → Q (.ref a) H'
theorem scSsum : FnScope ["_law_state", "_law_unknowns", "_law_way", "_law_found", "_law_key", "_law_number_here"] ["_law_state", "_law_unknowns"] (defScope sSsum) := ⟨rfl, rfl, rfl, by decide +kernel, rfl, by decide +kernel, by decide +kernel⟩
theorem ok_ssum {f : Addr} {fd : FuncData} (F : Fun K "_law_some_sum" "_law_some_sum" sSsum f fd) (ml : mg "len" = none) (tk : Cl P w K mg base CX0 3 "_law_take" spTake []) (nm : Cl P w K mg base CX0 4 "_law_number" spNumber []) : FnOk P w K mg base CX0 5 f fd ["_law_state", "_law_unknowns"] spSsum := by
  refine F.ok scSsum (fun vs H Q E h => ?_) (fun cdv A outer s H vs Q E hr h => ?_)
  · obtain ⟨_, _, _, _, rfl, _⟩ := h
    rfl
  · obtain ⟨st, c, u, xs, rfl, sa, hu0, hl, hx, q⟩ := h
    have hu := hu_of hr
    refine ⟨_, pss_cons (ps_set (i := 2) scSsum.nd rfl (.inl rfl) (pc0 tk hr (by decide) (pa_cons (pv 0) (pa_cons pe_int pa_nil))))
      (pss_cons (ps_set (i := 3) scSsum.nd rfl (.inl rfl) pe_dnewK)
      (pss_cons (ps_for PassesOwn.never rfl (pi_list (pv 1)) (pg_name (i := 4) scSsum.nd rfl (.inl rfl))
        (pss_cons (ps_set (i := 5) scSsum.nd rfl (.inl rfl) (pc0 nm hr (by decide) (pa_cons (pv 0) pa_nil)))
        (pss_one (ps_if (PW.pt (pw_and (pt_cmpR op_ne (pe_ix ix_tup (pv 5) pe_int (fun _ _ => rfl)) pe_int (nomark _))
          (pw_and1 (PW.pt (pw_or (pt_cmpR op_gt (pv 2) pe_int (nomark _)) (pw_or1 (pt_cmpR op_eq (pc0 tk hr (by decide) (pa_cons (pv 0) (pa_cons pe_int pa_nil))) pe_int (nomark _))))))))
          (pss_one (ps_dput hu (pv 3) (pv 4) (pv 5) rfl)) pss_nil))))
      (pss_cons (ps_if (pt_cmpR op_eq (pv 2) pe_int (nomark _)) (pss_one (ps_ret pe_dnewK)) pss_nil)
      (pss_cons (ps_if (PW.pt (pw_and (pt_cmpR (op_eq0 hr.units) (pv 3) pe_dnewK (nomark _)) (pw_and (pt_cmpR op_gt (pv 2) pe_int (nomark _))
          (pw_and1 (pt_cmpR op_gt (pe_callB call_len_seq (by rfl) ml PySem.boot_len (pa_cons (pv 1) pa_nil)) pe_int (nomark _))))))
        (pss_one (ps_dput hu (pv 3) (pe_ix ix_list (pv 1) (pc0 tk hr (by decide) (pa_cons (pv 0) (pa_cons (pe_callB call_len_seq (by rfl) ml PySem.boot_len (pa_cons (pv 1) pa_nil)) pa_nil))) (fun _ _ => rfl))
          (pe_tup (pa_cons (pe_op op_sub pe_int (pe_op op_mul pe_int (pc0 tk hr (by decide) (pa_cons (pv 0) (pa_cons pe_int pa_nil))))) (pa_cons pe_int pa_nil))) rfl)) pss_nil)
      (pss_one (ps_ret (pv 3))))))), ?_⟩
    have nu := strs_ne sa hu0
    refine ⟨_, rfl, st, c, 8, rfl, by decide, lt8 (by decide), sa, fun H1 wy b1 s1 l1 u1 => ?_⟩
    intro a na1
    have as1 := s1.fresh na1
    have ac1 := s1.fresh2 na1
    have na : H a = none := by
      cases e : H a with
      | none => rfl
      | some o =>
        have z := b1 a o (fun z => as1 z) e
        rw [na1] at z
        cases z
    have sn := same_new (o := .dK []) na1
    have hu1 : (upd H1 a (.dK [])) u = some (.lst (xs.map V.str)) := sn _ _ (b1 _ _ nu hu0)
    refine ⟨_, rfl, u, rfl, ⟨_, SqL.of hu1⟩, for_list (K := K) (a := u) (xs := xs.map V.str) (fun i σ H' => ∃ (y4 y5 : Option V) (kvs : List (Key × V)), σ = [some (.ref st), some (.ref u), some (.int wy), some (.ref a), y4, y5] ∧ But st H H' ∧ StA st c H' ∧ DF 20 i H' a kvs ∧ NZ H' kvs)
      ⟨none, none, [], rfl, b1.trans (Same.but sn), s1.same sn, ⟨upd_same, List.nodup_nil, Nat.le_refl _, fun p hp => absurd hp List.not_mem_nil⟩, fun p hp => absurd hp List.not_mem_nil⟩ ?_ ?_ ?_⟩
    · rintro i σ H' _ ⟨_, _, _, _, bt, _⟩
      exact SqL.of (bt _ _ nu hu0)
    · rintro i y σ H2 hy ⟨y4, y5, kvs, rfl, bt, s2, df, nz⟩
      obtain ⟨x, hxi, rfl⟩ : ∃ x, x ∈ xs ∧ y = .str x := by
        rw [List.getElem?_map] at hy
        cases e : xs[i]? with
        | none =>
          rw [e] at hy
          cases hy
        | some x =>
          rw [e] at hy
          exact ⟨x, List.mem_of_getElem? e, (Option.some.inj hy).symm⟩
      have hi : i < xs.length := by
        have z := (List.getElem?_eq_some_iff.mp hy).1
        rw [List.length_map] at z
        exact z
      have dm : ∀ {H'}, DF 20 i H' a kvs → DF 20 (i + 1) H' a kvs := fun h => ⟨h.1, h.2.1, Nat.le_succ_of_le h.2.2.1, h.2.2.2⟩
      refine ⟨_, rfl, st, c, rfl, s2, fun H3 p b3 s3 fp => ?_⟩
      have df3 := df.but b3 s2
      have nz3 := nz.but df b3 s2
      obtain ⟨v1, v2, v3, v4, v5⟩ := fp.val
      refine ⟨_, rfl, p, _, 0, _, rfl, rfl, SqT.of v1, atI_nat (j := 0) rfl, rfl, _, rfl, ite2 (fun e => ?_) (fun e => iteF ?_)⟩
      · have n0 : (fval H3 (.ref p)).1 ≠ 0 := fun z => by
          rw [z] at e
          exact absurd e (by decide)
        have fin : ∀ H4, But st H3 H4 → StA st c H4 → ∃ (y4 y5 : Option V) (kvs' : List (Key × V)), [some (V.ref st), some (.ref u), some (.int wy), some (.ref a), some (.str x), some (.ref p)] = [some (.ref st), some (.ref u), some (.int wy), some (.ref a), y4, y5] ∧ But st H (upd H4 a (.dK (putK kvs (.inr x) (.ref p)))) ∧ StA st c (upd H4 a (.dK (putK kvs (.inr x) (.ref p)))) ∧ DF 20 (i + 1) (upd H4 a (.dK (putK kvs (.inr x) (.ref p)))) a kvs' ∧ NZ (upd H4 a (.dK (putK kvs (.inr x) (.ref p)))) kvs' := fun H4 b4 s4 => by
          have df4 := df3.but b4 s3
          refine ⟨_, _, _, rfl, ?_, s4.other as1 ac1, (dm df4).put (hx x hxi) (fp.but b4 s3) (Nat.lt_succ_of_le df.2.2.1), (nz3.but df3 b4 s3).put df4 (fp.but b4 s3) ?_⟩
          · intro b o nb e4
            rw [upd_ne fun z => ?_]
            · exact ((bt.trans b3).trans b4) b o nb e4
            · rw [z, na] at e4
              cases e4
          · rw [fp.fval fun ys e5 => b4.tup s3 e5]
            exact n0
        refine ⟨_, rfl, wy, 4, rfl, rfl, _, rfl, ite2 (fun e2 => iteT ?_) (fun e2 => ?_)⟩
        · refine ⟨_, rfl, _, rfl, _, rfl, a, _, rfl, DPut.k (k := .inr x) df3.1 (small1000 (Nat.le_trans df3.2.2.1 (by omega))), ?_⟩
          exact fin H3 (But.refl _ _) s3
        · refine ⟨_, rfl, st, c, 2, rfl, by decide, lt8 (by decide), s3, fun H4 d4 b4 s4 l4 u4 => ⟨rfl, _, rfl, ite2 (fun e3 => ?_) (fun e3 => ?_)⟩⟩
          · have df4 := df3.but b4 s3
            refine ⟨_, rfl, _, rfl, _, rfl, a, _, rfl, DPut.k (k := .inr x) df4.1 (small1000 (Nat.le_trans df4.2.2.1 (by omega))), ?_⟩
            exact fin H4 b4 s4
          · exact ⟨_, _, kvs, rfl, (bt.trans b3).trans b4, s4, dm (df3.but b4 s3), nz3.but df3 b4 s3⟩
      · exact ⟨_, _, kvs, rfl, bt.trans b3, s3, dm df3, nz3⟩
    · rintro σ H2 ⟨y4, y5, kvs, rfl, bt, s2, df, nz⟩
      rw [List.length_map] at df
      have dm : DF 20 (xs.length + 1) H2 a kvs := ⟨df.1, df.2.1, Nat.le_succ_of_le df.2.2.1, df.2.2.2⟩
      have hu2 := bt _ _ nu hu0
      refine ⟨_, rfl, rfl, _, rfl, ite2 (fun e => ?_) (fun e => ?_)⟩
      · intro a2 na2
        have s3 := same_new (o := .dK []) na2
        have a2n : H a2 = none := by
          cases e : H a2 with
          | none => rfl
          | some o =>
            have z := bt a2 o (s2.fresh na2) e
            rw [na2] at z
            cases z
        exact q _ a2 [] (bt.trans (Same.but s3)) (s2.same s3) a2n ⟨upd_same, List.nodup_nil, Nat.zero_le _, fun p hp => absurd hp List.not_mem_nil⟩ fun p hp => absurd hp List.not_mem_nil
      · refine ⟨_, rfl, fun a3 na3 => ?_⟩
        have s3 := same_new (o := .dK []) na3
        have df3 := dm.same s3
        have nz3 := nz.same df s3
        have b3 : But st H (upd H2 a3 (.dK [])) := bt.trans (Same.but s3)
        have sa3 := s2.same s3
        have hu3 := s3 _ _ hu2
        have ha3 : (upd H2 a3 (.dK [])) a3 = some (.dK []) := upd_same
        generalize upd H2 a3 (.dK []) = H3 at s3 df3 nz3 b3 sa3 hu3 ha3 ⊢
        have el : ((xs.map V.str).length : Int) = (xs.length : Int) := by rw [List.length_map]
        refine ⟨a, a3, kvs, rfl, rfl, df3.1, ha3, _, rfl, ite2 (fun e2 => ?n1) (fun e2 => iteF ?r1)⟩
        case' n1 => refine ⟨_, rfl, wy, 1, rfl, rfl, _, rfl, ite2 (fun e3 => ?n2) (fun e3 => iteF ?r2)⟩
        case' n2 => refine ⟨_, rfl, u, _, rfl, .inl (SqL.of hu3), (xs.length : Int), 0, congrArg V.int el, rfl, _, rfl, ite2 (fun e4 => ?_) (fun e4 => ?r3)⟩
        case r1 | r2 | r3 => exact ⟨_, rfl, q _ a kvs b3 sa3 na df3 nz3⟩
        have lp : 0 < (xs.length : Int) := of_decide_eq_true e4
        refine ⟨_, rfl, st, c, 2, rfl, by decide, lt8 (by decide), sa3, fun H4 d4 b4 s4 l4 u4 => ⟨2, d4, rfl, rfl, .inl ⟨by decide, by decide⟩, 1, 2 * d4, rfl, rfl, small2, fun T nT => ?_⟩⟩
        have sT := same_new (o := .tup [.int (1 - 2 * d4), .int 1]) nT
        have hT : (upd H4 T (.tup [.int (1 - 2 * d4), .int 1])) T = some (.tup [.int (1 - 2 * d4), .int 1]) := upd_same
        have fT : Frg 20 (upd H4 T (.tup [.int (1 - 2 * d4), .int 1])) T := ⟨_, _, hT, by decide, by omega, by decide, Int.gcd_one_right _⟩
        have df5 := (df3.but b4 sa3).same sT
        have nz5 := (nz3.but df3 b4 sa3).same (df3.but b4 sa3) sT
        have b5 := (b3.trans b4).trans (Same.but (st := st) sT)
        have s5 := s4.same sT
        have hu5 := sT _ _ (b4 _ _ nu hu3)
        have vT := fval_at hT
        generalize upd H4 T (.tup [.int (1 - 2 * d4), .int 1]) = H5 at fT df5 nz5 b5 s5 hu5 vT ⊢
        refine ⟨_, rfl, _, rfl, _, rfl, _, rfl, u, _, rfl, .inl (SqL.of hu5), st, c, (xs.length : Int), congrArg (fun z => [V.ref st, V.int z]) el, lp, lt8 (by omega), s5, fun H6 d6 b6 s6 l6 u6 => ?_⟩
        obtain ⟨x, hxi, hat⟩ := at_str (xs := xs) l6 u6
        have df6 := df5.but b6 s5
        have f6 := fT.but b6 s5
        have k0 : kvs.length < xs.length + 1 := by
          have z := df.2.2.1
          omega
        refine ⟨u, _, d6, _, rfl, rfl, SqL.of (b6 _ _ nu hu5), hat, a, _, rfl, DPut.k (k := .inr x) df6.1 (small1000 (by omega)), _, rfl, ?_⟩
        refine q _ a _ ?_ (s6.other as1 ac1) na (df6.put (hx x hxi) f6 k0) ((nz5.but df5 b6 s5).put df6 f6 ?_)
        · intro b o nb e9
          rw [upd_ne fun z => ?_]
          · exact (b5.trans b6) b o nb e9
          · rw [z, na] at e9
            cases e9
        · rw [fT.fval fun ys e5 => b6.tup s5 e5, vT]
          show 1 - 2 * d4 ≠ 0
          omega
end
end SS

namespace SS
open PySem PySem.Spec PyProof.Rows L2
def fplus (a b : Int × Int) : Int × Int := (fr1 (a.1 * b.2 + b.1 * a.2) (a.2 * b.2), fr2 (a.1 * b.2 + b.1 * a.2) (a.2 * b.2))
def ftimes (a b : Int × Int) : Int × Int := (fr1 (a.1 * b.1) (a.2 * b.2), fr2 (a.1 * b.1) (a.2 * b.2))
def Okb (k : Nat) (a : Int × Int) : Prop := 0 < a.2 ∧ a.1.natAbs < 2 ^ k ∧ a.2.natAbs < 2 ^ k ∧ Int.gcd a.1 a.2 = 1
theorem Okb.mono {k j : Nat} {a : Int × Int} (h : Okb k a) (l : k ≤ j) : Okb j a := ⟨h.1, sm_mono h.2.1 l, sm_mono h.2.2.1 l, h.2.2.2⟩
theorem okb_times {a b : Int × Int} {k j : Nat} (ha : Okb k a) (hb : Okb j b) : Okb (k + j) (ftimes a b) := by
  have nz : a.2 * b.2 ≠ 0 := pos_ne ha.1 hb.1
  exact ⟨fr2_pos nz, Nat.lt_of_le_of_lt (fr1_le nz) (sm_mul ha.2.1 hb.2.1), Nat.lt_of_le_of_lt (fr2_le nz) (sm_mul ha.2.2.1 hb.2.2.1), fr_gcd nz⟩
theorem okb_plus {a b : Int × Int} {k j : Nat} (ha : Okb k a) (hb : Okb j b) : Okb (k + j + 1) (fplus a b) := by
  have nz : a.2 * b.2 ≠ 0 := pos_ne ha.1 hb.1
  have t1 : (a.1 * b.2).natAbs < 2 ^ (k + j) := sm_mul ha.2.1 hb.2.2.1
  have t2 : (b.1 * a.2).natAbs < 2 ^ (k + j) := by
    rw [Int.mul_comm]
    exact sm_mul ha.2.2.1 hb.2.1
  exact ⟨fr2_pos nz, Nat.lt_of_le_of_lt (fr1_le nz) (sm_add t1 t2), Nat.lt_of_le_of_lt (fr2_le nz) (sm_mono (sm_mul ha.2.2.1 hb.2.2.1) (Nat.le_succ _)), fr_gcd nz⟩
theorem okb_zero (k : Nat) : Okb (k + 1) (0, 1) := ⟨by decide, by show 0 < 2 ^ (k + 1); exact Nat.pow_pos (by decide), by show 1 < 2 ^ (k + 1); exact Nat.one_lt_pow (by omega) (by decide), by decide⟩
theorem Frg.okb {k : Nat} {H : Hp} {r : Addr} (h : Frg k H r) : Okb k (SS.fval H (.ref r)) := h.val.2
theorem mem_valV {ls : List (Key × V)} {k : Key} {v : V} (h : valV ls k = some v) : ∃ p ∈ ls, p.1 = k ∧ p.2 = v := by
  unfold valV at h
  cases e : ls.find? fun kv => decide (kv.1 = k) with
  | none =>
    rw [e] at h
    cases h
  | some p =>
    rw [e] at h
    exact ⟨p, List.mem_of_find?_eq_some e, of_decide_eq_true (List.find?_some (p := fun kv : Key × V => decide (kv.1 = k)) e), Option.some.inj h⟩
theorem FrT.unlock {K : PySem.W.Frag} {H : Hp} {a p : Addr} {n d : Int} {od : Obj} {kvs : List (Key × V)} {o : HO} (h : FrT K H p n d) (ha : H a = some (.frz od (.dK kvs))) : FrT K (upd H a o) p n d := by
  obtain ⟨h1, h2⟩ := h
  rcases h1 with (h1 | ⟨o1, h1⟩) | ⟨o1, its, m, k1, k2, k3⟩
  · have e : (upd H a o) p = some (.tup [.int n, .int d]) := by
      rw [upd_ne fun z => ?_]
      · exact h1
      · rw [z, ha] at h1
        cases h1
    exact FrT.of e
  · have e : (upd H a o) p = some (.frz o1 (.tup [.int n, .int d])) := by
      rw [upd_ne fun z => ?_]
      · exact h1
      · rw [z, ha] at h1
        cases h1
    exact ⟨.inl (.inr ⟨o1, e⟩), .fTuple e⟩
  · exact ⟨.inr ⟨o1, its, m, k1, k2, k3⟩, .kTuple k1 k2⟩
end SS

namespace SS
open PySem PySem.Spec PyProof.Rows L2
section
variable {P : Program} {w : World} {K : PySem.W.Frag} {mg : Str → Option Value} {base : Heap}
def spTurned : Sp := fun vs H Q _ => ∃ (p : Addr) (n d : Int), vs = [.ref p] ∧ H p = some (.tup [.int n, .int d]) ∧ ∀ r, H r = none → Q (.ref r) (upd H r (.tup [.int (0 - n), .int d]))
end
end SS

namespace SS
open PySem PySem.Spec PyProof.Rows L2
/-! ### fractions added up -/
theorem okb_top0 {B : Nat} {x : Int × Int} (h : Okb B x) (z : x.1 = 0) : x = (0, 1) := by
  obtain ⟨h1, _, _, h4⟩ := h
  rw [z] at h4
  have e : x.2.natAbs = 1 := by
    have q : Int.gcd 0 x.2 = x.2.natAbs := Int.gcd_zero_left ..
    rw [← q]
    exact h4
  have e2 : x.2 = 1 := by omega
  exact Prod.ext z e2
/-- a fraction in lowest terms is its own -/
theorem fr_self {n d : Int} (hd : 0 < d) (g : Int.gcd n d = 1) : fr1 n d = n ∧ fr2 n d = d := by
  have nz : d ≠ 0 := by omega
  have s1 : sgd n d = 1 := by
    unfold sgd
    rw [if_neg (by omega), g]
    rfl
  have a := fr1_eq (t := n) nz
  have b := fr2_eq (t := n) nz
  rw [s1, Int.mul_one] at a b
  exact ⟨a, b⟩
theorem fplus_zero {B : Nat} {x : Int × Int} (h : Okb B x) : fplus x (0, 1) = x := by
  obtain ⟨h1, _, _, h4⟩ := h
  have e := fr_self h1 h4
  show (fr1 (x.1 * 1 + 0 * x.2) (x.2 * 1), fr2 (x.1 * 1 + 0 * x.2) (x.2 * 1)) = x
  rw [Int.mul_one, Int.mul_one, Int.zero_mul, Int.add_zero, e.1, e.2]
theorem zero_fplus {B : Nat} {x : Int × Int} (h : Okb B x) : fplus (0, 1) x = x := by
  obtain ⟨h1, _, _, h4⟩ := h
  have e := fr_self h1 h4
  show (fr1 (0 * x.2 + x.1 * 1) (1 * x.2), fr2 (0 * x.2 + x.1 * 1) (1 * x.2)) = x
  rw [Int.mul_one, Int.one_mul, Int.zero_mul, Int.zero_add, e.1, e.2]
theorem ftimes_one {B : Nat} {x : Int × Int} (h : Okb B x) : ftimes x (1, 1) = x := by
  obtain ⟨h1, _, _, h4⟩ := h
  have e := fr_self h1 h4
  show (fr1 (x.1 * 1) (x.2 * 1), fr2 (x.1 * 1) (x.2 * 1)) = x
  rw [Int.mul_one, Int.mul_one, e.1, e.2]
theorem zero_ftimes {B : Nat} {x : Int × Int} (h : Okb B x) : ftimes (0, 1) x = (0, 1) := by
  have nz : (1 : Int) * x.2 ≠ 0 := by
    have := h.1
    omega
  have ok : Okb (B + 1 + B) (ftimes (0, 1) x) := okb_times (k := B + 1) (okb_zero B) h
  refine okb_top0 ok ?_
  show fr1 (0 * x.1) (1 * x.2) = 0
  have e := fr1_eq (t := 0 * x.1) nz
  rw [Int.zero_mul] at e
  rcases Int.mul_eq_zero.mp e with z | z
  · rw [Int.zero_mul]
    exact z
  · exact absurd z (sgd_ne nz)
/-! ### a dict that holds just what f says -/
/-- all that stands in the dict at a is f's; where it lacks, f is nought; z: no nought stands in it -/
def DM (z : Prop) (m : Nat) (H : Hp) (a : Addr) (kvs : List (Key × V)) (f : Key → Int × Int) : Prop :=
  H a = some (.dK kvs) ∧ (kvs.map (·.1)).Nodup ∧ kvs.length ≤ m ∧
  (∀ p ∈ kvs, (∃ x, p.1 = .inr x ∧ NmOk x) ∧ (∃ r, p.2 = .ref r ∧ H r = some (.tup [.int (f p.1).1, .int (f p.1).2])) ∧ (z → (f p.1).1 ≠ 0)) ∧ ∀ k, valV kvs k = none → f k = (0, 1)
theorem DM.same {z : Prop} {m : Nat} {H H' : Hp} {a : Addr} {kvs : List (Key × V)} {f : Key → Int × Int} (h : DM z m H a kvs f) (s : Same H H') : DM z m H' a kvs f := by
  obtain ⟨h1, h2, h3, h4, h5⟩ := h
  refine ⟨s _ _ h1, h2, h3, fun p hp => ?_, h5⟩
  obtain ⟨e1, ⟨r, e2, e3⟩, e4⟩ := h4 p hp
  exact ⟨e1, ⟨r, e2, s _ _ e3⟩, e4⟩
theorem DM.lk {z : Prop} {m : Nat} {H H' : Hp} {a b : Addr} {kvs ks : List (Key × V)} {f : Key → Int × Int} (h : DM z m H a kvs f) (hb : H b = some (.dK ks)) (n : a ≠ b) (s : ∀ x o, x ≠ b → H x = some o → H' x = some o) : DM z m H' a kvs f := by
  obtain ⟨h1, h2, h3, h4, h5⟩ := h
  refine ⟨s _ _ n h1, h2, h3, fun p hp => ?_, h5⟩
  obtain ⟨e1, ⟨r, e2, e3⟩, e4⟩ := h4 p hp
  refine ⟨e1, ⟨r, e2, s _ _ (fun c => ?_) e3⟩, e4⟩
  rw [c, hb] at e3
  cases e3
theorem DM.get {z : Prop} {m : Nat} {H : Hp} {a : Addr} {kvs : List (Key × V)} {f : Key → Int × Int} {k : Key} {v : V} (h : DM z m H a kvs f) (e : valV kvs k = some v) : ∃ r, v = .ref r ∧ H r = some (.tup [.int (f k).1, .int (f k).2]) := by
  obtain ⟨p, hp, e1, e2⟩ := mem_valV e
  obtain ⟨_, ⟨r, e3, e4⟩, _⟩ := h.2.2.2.1 p hp
  rw [e1] at e4
  exact ⟨r, e2.symm.trans e3, e4⟩
theorem DM.mono {z : Prop} {m n : Nat} {H : Hp} {a : Addr} {kvs : List (Key × V)} {f : Key → Int × Int} (h : DM z m H a kvs f) (l : m ≤ n) : DM z n H a kvs f := ⟨h.1, h.2.1, Nat.le_trans h.2.2.1 l, h.2.2.2⟩
theorem DM.fn {z : Prop} {m : Nat} {H : Hp} {a : Addr} {kvs : List (Key × V)} {f g : Key → Int × Int} (h : DM z m H a kvs f) (e : ∀ k, g k = f k) : DM z m H a kvs g := by
  have : g = f := funext e
  rw [this]
  exact h
theorem DM.copy {z : Prop} {m : Nat} {H : Hp} {a c : Addr} {kvs : List (Key × V)} {f : Key → Int × Int} (h : DM z m H a kvs f) (n : H c = none) : DM z m (upd H c (.dK kvs)) c kvs f := by
  have q := h.same (same_new (o := .dK kvs) n)
  exact ⟨upd_same, q.2⟩
/-- d[k] = v, f changed there -/
theorem DM.put {z : Prop} {m : Nat} {H : Hp} {a r : Addr} {kvs : List (Key × V)} {f : Key → Int × Int} {x : Str} {v : Int × Int} (h : DM z m H a kvs f) (hx : NmOk x) (hr : H r = some (.tup [.int v.1, .int v.2])) (hz : z → v.1 ≠ 0) :
    DM z (m + 1) (upd H a (.dK (putK kvs (.inr x) (.ref r)))) a (putK kvs (.inr x) (.ref r)) (fun k => if k = .inr x then v else f k) := by
  obtain ⟨h1, h2, h3, h4, h5⟩ := h
  have keep : ∀ r' xs, H r' = some (.tup xs) → (upd H a (.dK (putK kvs (.inr x) (.ref r)))) r' = some (.tup xs) := fun r' xs e => by
    rw [upd_ne fun c => ?_]
    · exact e
    · rw [c, h1] at e
      cases e
  have hv := valV_put kvs (.inr x) (y := .ref r)
  refine ⟨upd_same, nd_put _ _ h2, Nat.le_trans (length_putK ..) (Nat.succ_le_succ h3), fun p hp => ?_, fun k e => ?_⟩
  · have e0 : valV (putK kvs (.inr x) (.ref r)) p.1 = some p.2 := val_nodup (nd_put _ _ h2) p hp
    rw [hv] at e0
    by_cases c : p.1 = .inr x
    · rw [if_pos c] at e0
      dsimp only
      rw [if_pos c]
      exact ⟨⟨x, c, hx⟩, ⟨r, (Option.some.inj e0).symm, keep _ _ hr⟩, hz⟩
    · rw [if_neg c] at e0
      dsimp only
      rw [if_neg c]
      obtain ⟨q, hq, e1, e2⟩ := mem_valV e0
      obtain ⟨g1, ⟨r', g2, g3⟩, g4⟩ := h4 q hq
      rw [e1] at g1 g3 g4
      rw [e2] at g2
      exact ⟨g1, ⟨r', g2, keep _ _ g3⟩, g4⟩
  · rw [hv] at e
    by_cases c : k = .inr x
    · rw [if_pos c] at e
      cases e
    · rw [if_neg c] at e
      show (if k = .inr x then v else f k) = (0, 1)
      rw [if_neg c]
      exact h5 k e
/-- d.pop(k) where f is nought there -/
theorem DM.pop {m : Nat} {H : Hp} {a : Addr} {kvs : List (Key × V)} {f : Key → Int × Int} {x : Key} (h : DM False m H a kvs f) (nz : ∀ p ∈ kvs, p.1 ≠ x → (f p.1).1 ≠ 0) (e0 : f x = (0, 1)) :
    DM True m (upd H a (.dK (dropK kvs x))) a (dropK kvs x) f := by
  obtain ⟨h1, h2, h3, h4, h5⟩ := h
  have keep : ∀ r' xs, H r' = some (.tup xs) → (upd H a (.dK (dropK kvs x))) r' = some (.tup xs) := fun r' xs e => by
    rw [upd_ne fun c => ?_]
    · exact e
    · rw [c, h1] at e
      cases e
  have sub : ∀ p ∈ dropK kvs x, p ∈ kvs ∧ p.1 ≠ x := fun p hp => ⟨(List.mem_filter.mp hp).1, of_decide_eq_true (List.mem_filter.mp hp).2⟩
  refine ⟨upd_same, nd_dropK h2, ?_, fun p hp => ?_, fun k e => ?_⟩
  · exact Nat.le_trans (dropK_le ..) h3
  · obtain ⟨q1, q2⟩ := sub p hp
    obtain ⟨g1, ⟨r', g2, g3⟩, g4⟩ := h4 p q1
    exact ⟨g1, ⟨r', g2, keep _ _ g3⟩, fun _ => nz p q1 q2⟩
  · by_cases c : k = x
    · rw [c]
      exact e0
    · refine h5 k ?_
      cases e2 : valV kvs k with
      | none => rfl
      | some v =>
        obtain ⟨p, hp, e3, e4⟩ := mem_valV e2
        have hd : p ∈ dropK kvs x := List.mem_filter.mpr ⟨hp, decide_eq_true (by rw [e3]; exact c)⟩
        exact absurd (List.mem_map.mpr ⟨p, hd, e3⟩) (valV_not e)
theorem deq_of {m n : Nat} {H : Hp} {a b : Addr} {kvs ls : List (Key × V)} {f : Key → Int × Int} (h : DM True m H a kvs f) (h' : DM True n H b ls f) : DEq H (.ref a) (.ref b) := by
  obtain ⟨h1, h2, h3, h4, h5⟩ := h
  obtain ⟨g1, g2, g3, g4, g5⟩ := h'
  have key : ∀ (l1 l2 : List (Key × V)), (∀ p ∈ l1, (f p.1).1 ≠ 0) → (∀ k, valV l2 k = none → f k = (0, 1)) → ∀ x ∈ l1.map (·.1), x ∈ l2.map (·.1) := fun l1 l2 q1 q2 x hx => by
    obtain ⟨p, hp, rfl⟩ := List.mem_map.mp hx
    cases e : valV l2 p.1 with
    | none => exact absurd (by rw [q2 _ e]) (q1 p hp)
    | some v => exact valV_in e
  have m1 := key kvs ls (fun p hp => (h4 p hp).2.2 trivial) g5
  have m2 := key ls kvs (fun p hp => (g4 p hp).2.2 trivial) h5
  have pm : (kvs.map (·.1)).Perm (ls.map (·.1)) := (List.perm_ext_iff_of_nodup h2 g2).mpr fun x => ⟨m1 x, m2 x⟩
  have hl : kvs.length = ls.length := by
    have q := pm.length_eq
    rw [List.length_map, List.length_map] at q
    exact q
  refine ⟨a, b, kvs, ls, rfl, rfl, h1, g1, hl, fun p hp => ?_⟩
  cases e : valV ls p.1 with
  | none => exact absurd (by rw [g5 _ e]) ((h4 p hp).2.2 trivial)
  | some v =>
    obtain ⟨q, hq, e1, e2⟩ := mem_valV e
    obtain ⟨_, ⟨r, e3, e4⟩, _⟩ := g4 q hq
    obtain ⟨_, ⟨r', e5, e6⟩, _⟩ := h4 p hp
    rw [e1] at e4
    refine ⟨v, rfl, r', r, _, _, e5, e2.symm.trans e3, e6, e4⟩
end SS

namespace SS
open PySem PySem.Spec PyProof.Rows L2
theorem op_neDK {X : Cx} {K : PySem.W.Frag} (hK : K = X.K) (hu : X.A.units + 64 < cLine) : OpR X (compareOp .NotEq) (rNeD K) := by
  subst hK
  exact op_neD hu
theorem eqv_nought (n d : Int) : PyData.eqv (.tuple [.int n, .int d]) (.tuple [.int 0, .int 1]) = (n == 0 && d == 1) := by
  simp [PyData.eqv, PyData.eqvAll]
/-- g says of the keys of l what f says, of all others nought -/
def Upto (l : List (Key × V)) (f g : Key → Int × Int) : Prop := ∀ k, (k ∈ l.map (·.1) → g k = f k) ∧ (¬ k ∈ l.map (·.1) → g k = (0, 1))
theorem take_snoc {kvs : List (Key × V)} {i : Nat} {p : Key × V} (h : kvs[i]? = some p) : kvs.take (i + 1) = kvs.take i ++ [p] := by
  rw [List.take_add_one, h]
  rfl
theorem nd_at {kvs : List (Key × V)} {i : Nat} {p : Key × V} (hn : (kvs.map (·.1)).Nodup) (h : kvs[i]? = some p) : ¬ p.1 ∈ (kvs.take i).map (·.1) := fun hm => by
  have e : kvs = kvs.take i ++ p :: kvs.drop (i + 1) := by
    have hi := (List.getElem?_eq_some_iff.mp h)
    obtain ⟨hi, e⟩ := hi
    rw [← e, ← List.drop_eq_getElem_cons hi, List.take_append_drop]
  rw [e, List.map_append, List.map_cons] at hn
  have := List.nodup_append.mp hn
  exact this.2.2 _ hm _ List.mem_cons_self rfl
theorem Upto.snoc {kvs : List (Key × V)} {f g : Key → Int × Int} {i : Nat} {p : Key × V} (u : Upto (kvs.take i) f g) (h : kvs[i]? = some p) : Upto (kvs.take (i + 1)) f (fun k => if k = p.1 then f p.1 else g k) := fun k => by
  rw [take_snoc h, List.map_append, List.mem_append]
  constructor
  · intro hm
    by_cases c : k = p.1
    · show (if k = p.1 then f p.1 else g k) = f k
      rw [if_pos c, c]
    · show (if k = p.1 then f p.1 else g k) = f k
      rw [if_neg c]
      rcases hm with hm | hm
      · exact (u k).1 hm
      · exact absurd (List.mem_singleton.mp hm) c
  · intro hm
    have c : k ≠ p.1 := fun e => hm (.inr (List.mem_singleton.mpr e))
    show (if k = p.1 then f p.1 else g k) = (0, 1)
    rw [if_neg c]
    exact (u k).2 fun z => hm (.inl z)
theorem Upto.snoc0 {kvs : List (Key × V)} {f g : Key → Int × Int} {i : Nat} {p : Key × V} (u : Upto (kvs.take i) f g) (hn : (kvs.map (·.1)).Nodup) (h : kvs[i]? = some p) (z : f p.1 = (0, 1)) : Upto (kvs.take (i + 1)) f g := fun k => by
  rw [take_snoc h, List.map_append, List.mem_append]
  constructor
  · intro hm
    rcases hm with hm | hm
    · exact (u k).1 hm
    · have e := List.mem_singleton.mp hm
      have e' : k = p.1 := e
      rw [e', z]
      exact (u p.1).2 (nd_at hn h)
  · intro hm
    exact (u k).2 fun q => hm (.inl q)
theorem Upto.all {z : Prop} {m : Nat} {H : Hp} {a : Addr} {kvs : List (Key × V)} {f g : Key → Int × Int} (h : DM z m H a kvs f) (u : Upto kvs f g) : ∀ k, f k = g k := fun k => by
  by_cases c : k ∈ kvs.map (·.1)
  · exact ((u k).1 c).symm
  · rw [(u k).2 c]
    cases e : valV kvs k with
    | none => exact h.2.2.2.2 k e
    | some v => exact absurd (valV_in e) c
theorem dm_new {z : Prop} {m : Nat} {H : Hp} {D : Addr} (h : H D = some (.dK [])) : DM z m H D [] (fun _ => (0, 1)) := ⟨h, List.nodup_nil, Nat.zero_le _, fun p hp => absurd hp List.not_mem_nil, fun _ _ => rfl⟩
section
variable {P : Program} {w : World} {K : PySem.W.Frag} {mg : Str → Option Value} {base : Heap}
def spWn : Sp := fun vs H Q _ => ∃ (a : Addr) (kvs : List (Key × V)) (f : Key → Int × Int) (m B : Nat), vs = [.ref a] ∧ DM False m H a kvs f ∧ m ≤ 900 ∧ (∀ k, Okb B (f k)) ∧
  ∀ H' c ks, Same H H' → H c = none → DM True m H' c ks f → Q (.ref c) H'
theorem scWn : FnScope ["numbers", "unknown"] ["numbers"] (defScope sWn) := ⟨rfl, rfl, rfl, by decide +kernel, rfl, by decide +kernel, by decide +kernel⟩
theorem ok_wn {f' aN : Addr} {fd : FuncData} {k : Nat} (F : Fun K "without_noughts" "without_noughts" sWn f' fd) (gN : mg "NOUGHT" = some (.ref aN)) (hN : ∀ H, FrT K H aN 0 1) : FnOk P w K mg base CX0 (k + 1) f' fd ["numbers"] spWn := by
  refine F.ok scWn (fun vs H Q E h => ?_) (fun cdv A outer s H vs Q E hr h => ?_)
  · obtain ⟨_, _, _, _, _, rfl, _⟩ := h
    rfl
  · obtain ⟨a, kvs, f, m, B, rfl, da, hm, ok, q⟩ := h
    have hu := hu_of hr
    refine ⟨_, pss_one (ps_ret (pe_lock (pe_dc (own := [("unknown", 1)]) (g := gName 1) rfl scWn.nd (pi_keys (pv 0)) (blkOk_by (by rfl))
      (fun _ _ _ _ _ => pg_name (i := 1) scWn.nd rfl (Or.inl rfl))
      (fun _ _ _ _ _ => pts_one (pt_cmpR (op_neDK (K := K) rfl hr.units) (pe_dget hu (pv 0) (pv 1) (fun _ _ => rfl)) (pe_glob (v := .ref aN) (by rfl) gN rfl) (nomark _)))
      (fun _ _ _ _ _ => pv 1) (fun _ _ _ _ _ => pe_dget hu (pv 0) (pv 1) (fun _ _ => rfl))))), ?_⟩
    refine ⟨a, .dK kvs, da.1, trivial, fun od => ⟨_, rfl, a, od, rfl, .inl ⟨kvs, upd_same, fun D nD => ?_⟩⟩⟩
    have nDH : H D = none := by
      cases e : H D with
      | none => rfl
      | some o =>
        by_cases c : D = a
        · rw [c, upd_same] at nD
          cases nD
        · rw [upd_ne c, e] at nD
          cases nD
    have aD : a ≠ D := ne_of_none da.1 nDH
    refine ⟨fun i mm H' => ∃ ks g, i + mm = kvs.length ∧ (∀ x o, x ≠ a → x ≠ D → H x = some o → H' x = some o) ∧ H' a = some (.frz od (.dK kvs)) ∧ DM True i H' D ks g ∧ Upto (kvs.take i) f g,
      ⟨kvs.length, [], fun _ => (0, 1), by omega, fun x o n1 n2 e => by rw [upd_ne n2, upd_ne n1]; exact e, by rw [upd_ne aD]; exact upd_same, dm_new upd_same, fun k => ⟨fun z => absurd z List.not_mem_nil, fun _ => rfl⟩⟩, fun i mm H3 hW => ?_⟩
    obtain ⟨ks, g, em, kp, ha3, dm, up⟩ := hW
    have ml : kvs.length ≤ m := da.2.2.1
    by_cases hi : i < kvs.length
    · refine .inr ⟨⟨ha3, hi⟩, fun H' => ∃ ks g, (∀ x o, x ≠ a → x ≠ D → H x = some o → H' x = some o) ∧ H' a = some (.frz od (.dK kvs)) ∧ DM True (i + 1) H' D ks g ∧ Upto (kvs.take (i + 1)) f g, fun H' hN' => ?_, fun x H' hy => ?_⟩
      · obtain ⟨a1, a2, r1, r2, r3, r4⟩ := hN'
        exact ⟨mm - 1, by omega, a1, a2, by omega, r1, r2, r3, r4⟩
      · obtain ⟨rfl, key, v, hkv, rfl⟩ := hy
        obtain ⟨⟨nx, e1, okn⟩, ⟨rv, e2, e3⟩, _⟩ := da.2.2.2.1 (key, v) (List.mem_of_getElem? hkv)
        have e2' : v = .ref rv := e2
        have e1' : key = .inr nx := e1
        subst e2' e1'
        have ev : valV kvs (.inr nx) = some (.ref rv) := val_nodup da.2.1 (.inr nx, .ref rv) (List.mem_of_getElem? hkv)
        have rva : rv ≠ a := fun c => by
          rw [c, da.1] at e3
          cases e3
        have hv3 : H' rv = some (.tup [.int (f (.inr nx)).1, .int (f (.inr nx)).2]) := kp _ _ rva (ne_of_none e3 nDH) e3
        have dg : DGet H' a (kV (.inr nx)) (some (.ref rv)) := .inl ⟨kvs, .inr nx, .inr ⟨od, ha3⟩, rfl, ev.symm⟩
        refine ⟨rfl, _, rfl, _, rfl, a, _, rfl, dg, .tuple [.int (f (.inr nx)).1, .int (f (.inr nx)).2], .tuple [.int 0, .int 1], .tup (SqT.of hv3) (.cons (.int _) (.cons (.int _) .nil)), .tup (hN _).1 (.cons (.int _) (.cons (.int _) .nil)), rfl, rfl, _, rfl, ite2 (fun e => ?_) (fun e => ?_)⟩
        · rw [eqv_nought] at e
          have nz : (f (.inr nx)).1 ≠ 0 := fun z => by
            have zz := okb_top0 (ok _) z
            rw [zz] at e
            exact absurd e (by decide)
          refine ⟨_, rfl, _, rfl, _, rfl, a, _, rfl, dg, ks, .inr nx, rfl, dm.1, small1000 (by have := dm.2.2.1; omega), ?_⟩
          have dp := dm.put (x := nx) (r := rv) (v := f (.inr nx)) okn hv3 (fun _ => nz)
          refine ⟨_, _, ?_, ?_, dp, up.snoc hkv⟩
          · intro x o n1 n2 e
            rw [upd_ne n2]
            exact kp x o n1 n2 e
          · rw [upd_ne aD]
            exact ha3
        · rw [eqv_nought] at e
          have z : f (.inr nx) = (0, 1) := by
            have e' : (f (.inr nx)).1 = 0 := by
              by_cases c : (f (.inr nx)).1 = 0
              · exact c
              · exact absurd (by rw [show ((f (.inr nx)).1 == 0) = false from beq_eq_false_iff_ne.mpr c]; rfl) e
            exact okb_top0 (ok _) e'
          exact ⟨ks, g, kp, ha3, dm.mono (Nat.le_succ _), up.snoc0 da.2.1 hkv z⟩
    · have ei : kvs.take i = kvs := List.take_of_length_le (by omega)
      rw [ei] at up
      have fg := up.all da
      refine .inl ⟨⟨ha3, by omega⟩, ha3, q _ D ks ?_ nDH ?_⟩
      · intro x o e
        by_cases c : x = a
        · subst c
          rw [upd_same, ← da.1]
          exact e
        · rw [upd_ne c]
          exact kp x o c (ne_of_none e nDH) e
      · obtain ⟨d1, d2, d3, d4, d5⟩ := dm.fn (g := f) fg
        refine ⟨by rw [upd_ne aD.symm]; exact d1, d2, by omega, fun p hp => ?_, d5⟩
        obtain ⟨g1, ⟨r', g2, g3⟩, g4⟩ := d4 p hp
        refine ⟨g1, ⟨r', g2, ?_⟩, g4⟩
        rw [upd_ne fun c => ?_]
        · exact g3
        · rw [c, ha3] at g3
          cases g3
end
end SS

namespace SS
open PySem PySem.Spec PyProof.Rows L2
/-! ### pairs added up -/
def tstep (f : Key → Int × Int) (p : Str × (Int × Int)) : Key → Int × Int := fun k => if k = .inr p.1 then fplus (f k) p.2 else f k
def tot (ps : List (Str × (Int × Int))) : Key → Int × Int := ps.foldl tstep fun _ => (0, 1)
theorem tot_snoc (ps : List (Str × (Int × Int))) (p : Str × (Int × Int)) : tot (ps ++ [p]) = tstep (tot ps) p := by
  unfold tot
  rw [List.foldl_append]
  rfl
theorem tot_ok {B : Nat} {ps : List (Str × (Int × Int))} (h : ∀ p ∈ ps, Okb B p.2) : ∀ k, Okb ((B + 1) * ps.length + 1) (tot ps k) := by
  have key : ∀ (n : Nat) (ps : List (Str × (Int × Int))), ps.length = n → (∀ p ∈ ps, Okb B p.2) → ∀ k, Okb ((B + 1) * ps.length + 1) (tot ps k) := fun n => by
    induction n with
    | zero =>
      intro ps e _ k
      rw [List.eq_nil_of_length_eq_zero e]
      exact okb_zero 0
    | succ n ih =>
      intro ps e hp k
      obtain ⟨qs, p, rfl⟩ : ∃ qs p, ps = qs ++ [p] := by
        have ne : ps ≠ [] := fun z => by
          rw [z] at e
          cases e
        exact ⟨ps.dropLast, ps.getLast ne, (List.dropLast_concat_getLast ne).symm⟩
      have lq : qs.length = n := by
        rw [List.length_append] at e
        exact Nat.succ.inj e
      have i1 := ih qs lq (fun p hp' => hp p (List.mem_append.mpr (.inl hp'))) k
      rw [tot_snoc, List.length_append]
      unfold tstep
      split
      · exact (okb_plus i1 (hp p (List.mem_append.mpr (.inr (List.mem_singleton.mpr rfl))))).mono (by show (B + 1) * qs.length + 1 + B + 1 ≤ (B + 1) * (qs.length + 1) + 1; rw [Nat.mul_succ]; omega)
      · exact i1.mono (by show (B + 1) * qs.length + 1 ≤ (B + 1) * (qs.length + 1) + 1; rw [Nat.mul_succ]; omega)
  exact key _ ps rfl h
/-- at the addresses rs stand the pairs ps -/
def PL (H : Hp) (rs : List Addr) (ps : List (Str × (Int × Int))) : Prop := rs.length = ps.length ∧ ∀ (i : Nat) (r : Addr), rs[i]? = some r → ∃ (x : Str) (q : Addr) (e : Int × Int), ps[i]? = some (x, e) ∧ H r = some (.tup [.str x, .ref q]) ∧ H q = some (.tup [.int e.1, .int e.2])
theorem PL.same {H H' : Hp} {rs : List Addr} {ps : List (Str × (Int × Int))} (h : PL H rs ps) (s : Same H H') : PL H' rs ps := ⟨h.1, fun i r e => by
  obtain ⟨x, q, v, e1, e2, e3⟩ := h.2 i r e
  exact ⟨x, q, v, e1, s _ _ e2, s _ _ e3⟩⟩
section
variable {P : Program} {w : World} {K : PySem.W.Frag} {mg : Str → Option Value} {base : Heap}
def spSumOf (K : PySem.W.Frag) : Sp := fun vs H Q _ => ∃ (p : Addr) (rs : List Addr) (ps : List (Str × (Int × Int))) (B : Nat), vs = [.ref p] ∧ (SqL K H p (rs.map V.ref) ∨ SqT K H p (rs.map V.ref)) ∧ PL H rs ps ∧ ps.length ≤ 400 ∧ (B + 1) * ps.length + 1 ≤ 2900 ∧ B ≤ 2900 ∧ (∀ p ∈ ps, NmOk p.1 ∧ Okb B p.2) ∧
  ∀ H' c ks, Same H H' → H c = none → DM True ps.length H' c ks (tot ps) → Q (.ref c) H'
theorem Same.seqT {H H' : Hp} {a : Addr} {xs : List V} (e : Same H H') (h : SqT K H a xs) : SqT K H' a xs := by
  rcases h with (h | ⟨o, h⟩) | h
  · exact .inl (.inl (e _ _ h))
  · exact .inl (.inr ⟨o, e _ _ h⟩)
  · exact .inr h
end
end SS

namespace SS
open PySem PySem.Spec PyProof.Rows L2
theorem DM.weak {z : Prop} {m : Nat} {H : Hp} {a : Addr} {kvs : List (Key × V)} {f : Key → Int × Int} (h : DM z m H a kvs f) : DM False m H a kvs f := ⟨h.1, h.2.1, h.2.2.1, fun p hp => ⟨(h.2.2.2.1 p hp).1, (h.2.2.2.1 p hp).2.1, fun c => c.elim⟩, h.2.2.2.2⟩
/-- the dict at b is given back -/
theorem DM.unlock {z : Prop} {m : Nat} {H : Hp} {a b : Addr} {kvs ls : List (Key × V)} {f : Key → Int × Int} {od : Obj} {o : HO} (h : DM z m H a kvs f) (hb : H b = some (.frz od (.dK ls))) (n : a ≠ b) : DM z m (upd H b o) a kvs f := by
  obtain ⟨h1, h2, h3, h4, h5⟩ := h
  refine ⟨by rw [upd_ne n]; exact h1, h2, h3, fun p hp => ?_, h5⟩
  obtain ⟨e1, ⟨r, e2, e3⟩, e4⟩ := h4 p hp
  refine ⟨e1, ⟨r, e2, ?_⟩, e4⟩
  rw [upd_ne fun c => ?_]
  · exact e3
  · rw [c, hb] at e3
    cases e3
section
variable {P : Program} {w : World} {K : PySem.W.Frag} {mg : Str → Option Value} {base : Heap}
def spAdd (K : PySem.W.Frag) : Sp := fun vs H Q _ => ∃ (a b n : Addr) (kvs ls : List (Key × V)) (f g : Key → Int × Int) (num : Int × Int) (m l : Nat), vs = [.ref a, .ref b, .ref n] ∧ DM True m H a kvs f ∧ DM False l H b ls g ∧ FrT K H n num.1 num.2 ∧
  (∀ k, Okb 1000 (f k)) ∧ (∀ k, Okb 900 (g k)) ∧ Okb 900 num ∧ m ≤ 100 ∧ l ≤ 100 ∧ ∀ H' c ks, Same H H' → H c = none → DM True (m + l) H' c ks (fun k => fplus (f k) (ftimes (g k) num)) → Q (.ref c) H'
theorem scAdd : FnScope ["_law_one", "_law_other", "_law_number_here", "_law_found", "_law_key", "_law_more"] ["_law_one", "_law_other", "_law_number_here"] (defScope sAdd) := ⟨rfl, rfl, rfl, by decide +kernel, rfl, by decide +kernel, by decide +kernel⟩
theorem ok_add {f' : Addr} {fd : FuncData} (F : Fun K "_law_add" "_law_add" sAdd f' fd) (md : mg "dict" = none) (pl : Cl P w K mg base CX0 3 "_law_plus" (spPlus K) []) (tm : Cl P w K mg base CX0 3 "_law_times" (spTimes K) []) : FnOk P w K mg base CX0 4 f' fd ["_law_one", "_law_other", "_law_number_here"] (spAdd K) := by
  refine F.ok scAdd (fun vs H Q E h => ?_) (fun cdv A outer s H vs Q E hr h => ?_)
  · obtain ⟨_, _, _, _, _, _, _, _, _, _, rfl, _⟩ := h
    rfl
  · obtain ⟨a, b, n, kvs, ls, f, g, num, m, l, rfl, da, db, fn, okf, okg, okn, hm, hl, q⟩ := h
    have hu := hu_of hr
    refine ⟨_, pss_cons (ps_set (i := 3) scAdd.nd rfl (.inl rfl) (pe_callTy call_dictD (by rfl) md (by decide +kernel) (pa_cons (pv 0) pa_nil)))
      (pss_cons (ps_lock (ps_for PassesOwn.never rfl (pi_keys (pv 1)) (pg_name (i := 4) scAdd.nd rfl (.inl rfl))
        (pss_cons (ps_set (i := 5) scAdd.nd rfl (.inl rfl) (pc0 pl hr (by decide) (pa_cons (pe_dget2 hu (pv 3) (pv 4) (pe_tup (pa_cons pe_int (pa_cons pe_int pa_nil))) ⟨rfl, rfl, rfl, rfl⟩)
          (pa_cons (pc0 tm hr (by decide) (pa_cons (pe_dget hu (pv 1) (pv 4) (fun _ _ => rfl)) (pa_cons (pv 2) pa_nil))) pa_nil))))
        (pss_cons (ps_dput hu (pv 3) (pv 4) (pv 5) rfl)
        (pss_one (ps_if (pt_cmpR op_eq (pe_ix ix_tup (pv 5) pe_int (fun _ _ => rfl)) pe_int (nomark _)) (pss_one (ps_expr (pe_dpop1 (pv 3) (pv 4) ⟨rfl, rfl, rfl, rfl⟩))) pss_nil))))))
      (pss_one (ps_ret (pv 3)))), ?_⟩
    refine ⟨_, rfl, a, kvs, rfl, .inl da.1, fun c nc => ?_⟩
    have s1 := same_new (o := .dK kvs) nc
    have dc := da.copy nc
    have db1 := db.same s1
    have bc : b ≠ c := ne_of_none db.1 nc
    refine ⟨b, .dK ls, db1.1, trivial, fun od => ⟨_, rfl, b, od, rfl, .inl ⟨ls, upd_same, ?_⟩⟩⟩
    have kp1 : ∀ x o, x ≠ b → H x = some o → (upd (upd H c (.dK kvs)) b (.frz od (.dK ls))) x = some o := fun x o nx e => by
      rw [upd_ne nx]
      exact s1 _ _ e
    have dc1 : DM True m (upd (upd H c (.dK kvs)) b (.frz od (.dK ls))) c kvs f := dc.lk db1.1 bc.symm fun x o nx e => by
      rw [upd_ne nx]
      exact e
    refine ⟨fun i mm σ H' => ∃ (y4 y5 : Option V) (ks : List (Key × V)) (fj : Key → Int × Int), σ = [some (.ref a), some (.ref b), some (.ref n), some (.ref c), y4, y5] ∧ i + mm = ls.length ∧ (∀ x o, x ≠ b → H x = some o → H' x = some o) ∧ H' b = some (.frz od (.dK ls)) ∧
        DM True (m + i) H' c ks fj ∧ ∀ k, (k ∈ (ls.take i).map (·.1) → fj k = fplus (f k) (ftimes (g k) num)) ∧ (¬ k ∈ (ls.take i).map (·.1) → fj k = f k),
      ⟨ls.length, none, none, kvs, f, rfl, by omega, kp1, upd_same, dc1, fun k => ⟨fun z => absurd z List.not_mem_nil, fun _ => rfl⟩⟩, fun i mm σ H3 hW => ?_⟩
    obtain ⟨y4, y5, ks, fj, rfl, em, kp, hb3, dm, fk⟩ := hW
    have ll : ls.length ≤ l := db.2.2.1
    by_cases hi : i < ls.length
    · refine .inr ⟨⟨hb3, hi⟩, fun σ' H' => ∃ (y4 y5 : Option V) (ks : List (Key × V)) (fj : Key → Int × Int), σ' = [some (.ref a), some (.ref b), some (.ref n), some (.ref c), y4, y5] ∧ (∀ x o, x ≠ b → H x = some o → H' x = some o) ∧ H' b = some (.frz od (.dK ls)) ∧
          DM True (m + (i + 1)) H' c ks fj ∧ ∀ k, (k ∈ (ls.take (i + 1)).map (·.1) → fj k = fplus (f k) (ftimes (g k) num)) ∧ (¬ k ∈ (ls.take (i + 1)).map (·.1) → fj k = f k), fun σ' H' hN' => ?_, fun x H' hy => ?_⟩
      · obtain ⟨a1, a2, a3, a4, r1, r2, r3, r4, r5⟩ := hN'
        exact ⟨mm - 1, by omega, a1, a2, a3, a4, r1, by omega, r2, r3, r4, r5⟩
      · obtain ⟨rfl, key, v, hkv, rfl⟩ := hy
        obtain ⟨⟨nx, e1, okx⟩, ⟨rv, e2, e3⟩, _⟩ := db.2.2.2.1 (key, v) (List.mem_of_getElem? hkv)
        have e2' : v = .ref rv := e2
        have e1' : key = .inr nx := e1
        subst e2' e1'
        have ev : valV ls (.inr nx) = some (.ref rv) := val_nodup db.2.1 (.inr nx, .ref rv) (List.mem_of_getElem? hkv)
        have rvb : rv ≠ b := fun z => by
          rw [z, db.1] at e3
          cases e3
        have ff : fj (.inr nx) = f (.inr nx) := (fk _).2 (nd_at db.2.1 hkv)
        have nb : n ≠ b ∨ True := .inr trivial
        refine ⟨_, rfl, c, rfl, .inl ⟨ks, .inl dm.1⟩, _, rfl, small2, fun N nN => ?_⟩
        have s4 := same_new (o := .tup [.int 0, .int 1]) nN
        have fN : FrT K (upd H' N (.tup [.int 0, .int 1])) N 0 1 := FrT.of upd_same
        have dm4 := dm.same s4
        have kp4 : ∀ x o, x ≠ b → H x = some o → (upd H' N (.tup [.int 0, .int 1])) x = some o := fun x o nx e => s4 _ _ (kp x o nx e)
        have hb4 := s4 _ _ hb3
        generalize upd H' N (.tup [.int 0, .int 1]) = H4 at fN dm4 kp4 hb4 ⊢
        obtain ⟨rp, ep, fp⟩ : ∃ rp, (valV ks (.inr nx)).getD (.ref N) = .ref rp ∧ FrT K H4 rp (f (.inr nx)).1 (f (.inr nx)).2 := by
          rw [← ff]
          cases ev2 : valV ks (.inr nx) with
          | none =>
            rw [dm4.2.2.2.2 _ ev2]
            exact ⟨N, rfl, fN⟩
          | some v =>
            obtain ⟨r', rfl, f'⟩ := dm4.get ev2
            exact ⟨r', rfl, FrT.of f'⟩
        have o1 := okf (.inr nx)
        have o2 := okg (.inr nx)
        have fn4 : FrT K H4 n num.1 num.2 := by
          obtain ⟨q1, q2⟩ := fn
          rcases q1 with (q1 | ⟨o, q1⟩) | ⟨o, its, mq, k1, k2, k3⟩
          · exact FrT.of (kp4 _ _ (fun z => by
              rw [z, db.1] at q1
              cases q1) q1)
          · have z := kp4 _ _ (fun z => by
              rw [z, db.1] at q1
              cases q1) q1
            exact ⟨.inl (.inr ⟨o, z⟩), .fTuple z⟩
          · exact ⟨.inr ⟨o, its, mq, k1, k2, k3⟩, .kTuple k1 k2⟩
        refine ⟨valV ks (.inr nx), DGet.k (k := .inr nx) dm4.1, _, rfl, _, rfl, b, _, rfl, .inl ⟨ls, .inr nx, .inr ⟨od, hb4⟩, rfl, ev.symm⟩, _, rfl, (g (.inr nx)).1, (g (.inr nx)).2, num.1, num.2, ⟨rv, n, rfl, FrT.of (kp4 _ _ rvb e3), fn4, o2.1, okn.1, sm_mono o2.2.1 (by decide), sm_mono o2.2.2.1 (by decide), sm_mono okn.2.1 (by decide), sm_mono okn.2.2.1 (by decide), o2.2.2.2, okn.2.2.2⟩, fun r1 nr1 => ?_⟩
        have okt : Okb 1800 (ftimes (g (.inr nx)) num) := okb_times o2 okn
        have s5 := same_new (o := .tup [.int (ftimes (g (.inr nx)) num).1, .int (ftimes (g (.inr nx)) num).2]) nr1
        refine ⟨(f (.inr nx)).1, (f (.inr nx)).2, (ftimes (g (.inr nx)) num).1, (ftimes (g (.inr nx)) num).2, ⟨rp, r1, by rw [ep]; rfl, fp.new s5, FrT.of upd_same, o1.1, okt.1, sm_mono o1.2.1 (by decide), sm_mono o1.2.2.1 (by decide), sm_mono okt.2.1 (by decide), sm_mono okt.2.2.1 (by decide), o1.2.2.2, okt.2.2.2⟩, fun r2 nr2 => ?_⟩
        have s6 := same_new (o := .tup [.int (fplus (f (.inr nx)) (ftimes (g (.inr nx)) num)).1, .int (fplus (f (.inr nx)) (ftimes (g (.inr nx)) num)).2]) nr2
        have okm : Okb 2801 (fplus (f (.inr nx)) (ftimes (g (.inr nx)) num)) := okb_plus o1 okt
        have dm6 := (dm4.same s5).same s6
        have hb6 := s6 _ _ (s5 _ _ hb4)
        have kp6 : ∀ x o, x ≠ b → H x = some o → _ := fun x o nx' e => s6 _ _ (s5 _ _ (kp4 x o nx' e))
        refine ⟨_, rfl, _, rfl, _, rfl, c, _, rfl, DPut.k (k := .inr nx) dm6.1 (small1000 (by have := dm.2.2.1; omega)), ?_⟩
        have r2c : r2 ≠ c := (ne_of_none (dm4.same s5).1 nr2).symm
        have hr2 : ∀ o : HO, (upd (upd (upd H4 r1 (.tup [.int (ftimes (g (.inr nx)) num).1, .int (ftimes (g (.inr nx)) num).2])) r2 (.tup [.int (fplus (f (.inr nx)) (ftimes (g (.inr nx)) num)).1, .int (fplus (f (.inr nx)) (ftimes (g (.inr nx)) num)).2])) c o) r2 = some (.tup [.int (fplus (f (.inr nx)) (ftimes (g (.inr nx)) num)).1, .int (fplus (f (.inr nx)) (ftimes (g (.inr nx)) num)).2]) := fun o => by
          rw [upd_ne r2c]
          exact upd_same
        have kpc : ∀ (o1 : HO) x o, x ≠ b → H x = some o → (upd (upd (upd H4 r1 (.tup [.int (ftimes (g (.inr nx)) num).1, .int (ftimes (g (.inr nx)) num).2])) r2 (.tup [.int (fplus (f (.inr nx)) (ftimes (g (.inr nx)) num)).1, .int (fplus (f (.inr nx)) (ftimes (g (.inr nx)) num)).2])) c o1) x = some o := fun o1 x o nx' e => by
          rw [upd_ne (ne_of_none e nc)]
          exact kp6 x o nx' e
        have fk' : ∀ k, (k ∈ (ls.take (i + 1)).map (·.1) → (if k = .inr nx then fplus (f (.inr nx)) (ftimes (g (.inr nx)) num) else fj k) = fplus (f k) (ftimes (g k) num)) ∧ (¬ k ∈ (ls.take (i + 1)).map (·.1) → (if k = .inr nx then fplus (f (.inr nx)) (ftimes (g (.inr nx)) num) else fj k) = f k) := fun k => by
          rw [take_snoc hkv, List.map_append, List.mem_append]
          constructor
          · intro hm'
            by_cases z : k = .inr nx
            · rw [if_pos z, z]
            · rw [if_neg z]
              rcases hm' with hm' | hm'
              · exact (fk k).1 hm'
              · exact absurd (List.mem_singleton.mp hm') z
          · intro hm'
            have z : k ≠ .inr nx := fun e => hm' (.inr (List.mem_singleton.mpr e))
            rw [if_neg z]
            exact (fk k).2 fun y => hm' (.inl y)
        refine ⟨_, rfl, r2, _, 0, _, rfl, rfl, SqT.of (hr2 _), atI_nat (j := 0) rfl, rfl, _, rfl, ite2 (fun e => ?_) (fun e => ?_)⟩
        · have z0 : (fplus (f (.inr nx)) (ftimes (g (.inr nx)) num)).1 = 0 := V.int.inj (of_decide_eq_true e)
          have zz := okb_top0 okm z0
          have dp := dm6.weak.put (x := nx) (r := r2) (v := fplus (f (.inr nx)) (ftimes (g (.inr nx)) num)) okx upd_same (fun z => z.elim)
          have dd := dp.pop (x := .inr nx) (fun p hp np => ?_) ?_
          · refine ⟨_, rfl, c, rfl, .inl ⟨_, .inl upd_same⟩, _, rfl, _, .inr nx, .ref r2, upd_same, rfl, ?_, ?_⟩
            · rw [valV_put, if_pos rfl]
            · rw [upd_upd]
              rw [upd_upd] at dd
              refine ⟨_, _, _, _, rfl, kpc _, ?_, dd.mono (by omega), fk'⟩
              rw [upd_ne bc]
              exact hb6
          · have e9 : valV (putK ks (.inr nx) (.ref r2)) p.1 = some p.2 := val_nodup dp.2.1 p hp
            rw [valV_put, if_neg np] at e9
            obtain ⟨p', hp', e10, _⟩ := mem_valV e9
            show (if p.1 = .inr nx then _ else fj p.1).1 ≠ 0
            rw [if_neg np, ← e10]
            exact (dm6.2.2.2.1 p' hp').2.2 trivial
          · show (if (.inr nx : Key) = .inr nx then _ else fj (.inr nx)) = (0, 1)
            rw [if_pos rfl]
            exact zz
        · have nz : (fplus (f (.inr nx)) (ftimes (g (.inr nx)) num)).1 ≠ 0 := fun z => e (by rw [z]; exact decide_eq_true rfl)
          have dp := dm6.put (x := nx) (r := r2) (v := fplus (f (.inr nx)) (ftimes (g (.inr nx)) num)) okx upd_same (fun _ => nz)
          refine ⟨_, _, _, _, rfl, kpc _, ?_, dp, fk'⟩
          rw [upd_ne bc]
          exact hb6
    · have ei : ls.take i = ls := List.take_of_length_le (by omega)
      rw [ei] at fk
      have dm' : DM True (m + l) H3 c ks (fun k => fplus (f k) (ftimes (g k) num)) := (dm.mono (by omega)).fn fun k => by
        by_cases cz : k ∈ ls.map (·.1)
        · exact ((fk k).1 cz).symm
        · rw [(fk k).2 cz]
          have gz : g k = (0, 1) := by
            cases e : valV ls k with
            | none => exact db.2.2.2.2 k e
            | some v => exact absurd (valV_in e) cz
          show fplus (f k) (ftimes (g k) num) = f k
          rw [gz, zero_ftimes okn, fplus_zero (okf k)]
      refine .inl ⟨⟨hb3, by omega⟩, hb3, _, rfl, q _ c ks ?_ nc (dm'.unlock hb3 bc.symm)⟩
      intro x o e
      by_cases z : x = b
      · subst z
        rw [upd_same, ← db.1]
        exact e
      · rw [upd_ne z]
        exact kp x o z e
end
end SS

namespace SS
open PySem PySem.Spec PyProof.Rows L2
theorem abc_mem : ∀ i : Nat, i < 26 → 97 + i ∈ abc.cps.toList := by decide +kernel
theorem ix_tupK {X : Cx} {K : PySem.W.Frag} (hK : K = X.K) : IxR X (rIxT K) := by
  subst hK
  exact ix_tup
theorem alls (n : Nat) : (List.replicate n true).all id = true := List.all_eq_true.mpr fun x hx => by
  rw [(List.mem_replicate.mp hx).2]
  rfl
section
variable {P : Program} {w : World} {K : PySem.W.Frag} {mg : Str → Option Value} {base : Heap}
def spIsName : Sp := fun vs H Q _ => ∃ x : Str, vs = [.str x] ∧ NmOk x ∧ ∀ H', Same H H' → Q (.bl true) H'
def spIsPoint : Sp := fun vs H Q _ => ∃ (a : Addr) (kvs : List (Key × V)) (f : Key → Int × Int) (z : Prop) (m B : Nat), vs = [.ref a] ∧ DM z m H a kvs f ∧ m ≤ 900 ∧ (∀ k, Okb B (f k)) ∧ ∀ H', Same H H' → Q (.bl true) H'
def spIsSum : Sp := fun vs H Q _ => ∃ (a : Addr) (kvs : List (Key × V)) (f : Key → Int × Int) (m B : Nat), vs = [.ref a] ∧ DM True m H a kvs f ∧ m ≤ 900 ∧ (∀ k, Okb B (f k)) ∧ ∀ H', Same H H' → Q (.bl true) H'
end
end SS

namespace SS
open PySem PySem.Spec PyProof.Rows L2
theorem vals_refs : ∀ {rs : List Addr} {us : List Value}, Vals (rs.map V.ref) us → us = rs.map Value.ref
  | [], _, .nil => rfl
  | r :: rs, _, .cons h t => by
    have e : _ = Value.ref r := h
    rw [e, vals_refs t]
    rfl
/-- l != m, lists of the very same objects -/
def rNeS (K : PySem.W.Frag) : R2 := fun x y H Q => ∃ (p q : Addr) (rs : List Addr), x = .ref p ∧ y = .ref q ∧ SqL K H p (rs.map V.ref) ∧ SqL K H q (rs.map V.ref) ∧ Q (.bl false) H
theorem op_neS {X : Cx} (hu : X.A.units + 64 < cLine) : OpR X (compareOp .NotEq) (rNeS X.K) := by
  intro pins s σ H x y v u Q I rx ry h
  obtain ⟨p, r, rs, rfl, rfl, h1, h2, q⟩ := h
  obtain rfl : v = Value.ref p := rx
  obtain rfl : u = Value.ref r := ry
  obtain ⟨us, r1, p1, _⟩ := I.list h1
  obtain ⟨ws, r2, p2, _⟩ := I.list h2
  have e1 := vals_refs r1
  have e2 := vals_refs r2
  subst e1 e2
  refine SeqAt.RcNeAt.lists (e := fun _ => true) p1.isList p2.isList rfl (by omega) (fun j j1 j2 => SeqAt.EqAt.same _) X.prog X.w _ _ ?_
  refine ⟨.bl false, H, I, ?_, q⟩
  rw [show ((List.range (rs.map Value.ref).toArray.size).all fun _ => true) = true from List.all_eq_true.mpr fun _ _ => rfl]
  rfl
theorem PL.but {st c : Addr} {H H' : Hp} {rs : List Addr} {ps : List (Str × (Int × Int))} (h : PL H rs ps) (b : But st H H') (y : StA st c H) : PL H' rs ps := ⟨h.1, fun i r e => by
  obtain ⟨x, q, v, e1, e2, e3⟩ := h.2 i r e
  exact ⟨x, q, v, e1, b.tup y e2, b.tup y e3⟩⟩
/-- a list or a dict changes: the pairs stand -/
theorem PL.keep {H H' : Hp} {rs : List Addr} {ps : List (Str × (Int × Int))} (h : PL H rs ps) (k : ∀ r xs, H r = some (.tup xs) → H' r = some (.tup xs)) : PL H' rs ps := ⟨h.1, fun i r e => by
  obtain ⟨x, q, v, e1, e2, e3⟩ := h.2 i r e
  exact ⟨x, q, v, e1, k _ _ e2, k _ _ e3⟩⟩
theorem PL.snoc {H : Hp} {rs : List Addr} {ps : List (Str × (Int × Int))} {r q : Addr} {x : Str} {e : Int × Int} (h : PL H rs ps) (h1 : H r = some (.tup [.str x, .ref q])) (h2 : H q = some (.tup [.int e.1, .int e.2])) : PL H (rs ++ [r]) (ps ++ [(x, e)]) := by
  refine ⟨by rw [List.length_append, List.length_append, h.1]; rfl, fun i r' hi => ?_⟩
  by_cases c : i < rs.length
  · rw [List.getElem?_append_left c] at hi
    obtain ⟨x', q', v, e1, e2, e3⟩ := h.2 i r' hi
    refine ⟨x', q', v, ?_, e2, e3⟩
    rw [List.getElem?_append_left (by rw [← h.1]; exact c)]
    exact e1
  · have hl : i = rs.length := by
      have z := (List.getElem?_eq_some_iff.mp hi).1
      rw [List.length_append] at z
      have z' : i < rs.length + 1 := z
      omega
    rw [hl, List.getElem?_append_right (Nat.le_refl _), Nat.sub_self] at hi
    have e' : r = r' := Option.some.inj hi
    subst e'
    refine ⟨x, q, e, ?_, h1, h2⟩
    rw [hl, h.1, List.getElem?_append_right (Nat.le_refl _), Nat.sub_self]
    rfl
theorem keep_l {H : Hp} {l : Addr} {xs : List V} {o : HO} (hl : H l = some (.lst xs)) : ∀ r ys, H r = some (.tup ys) → (upd H l o) r = some (.tup ys) := fun r ys e => by
  rw [upd_ne fun c => ?_]
  · exact e
  · rw [c, hl] at e
    cases e
theorem keep_d {H : Hp} {l : Addr} {ks : List (Key × V)} {o : HO} (hl : H l = some (.dK ks)) : ∀ r ys, H r = some (.tup ys) → (upd H l o) r = some (.tup ys) := fun r ys e => by
  rw [upd_ne fun c => ?_]
  · exact e
  · rw [c, hl] at e
    cases e
theorem okb_turned {B : Nat} {e : Int × Int} (h : Okb B e) : Okb B (0 - e.1, e.2) := by
  obtain ⟨h1, h2, h3, h4⟩ := h
  have en : (0 - e.1).natAbs = e.1.natAbs := by omega
  refine ⟨h1, by rw [en]; exact h2, h3, ?_⟩
  show Nat.gcd (0 - e.1).natAbs e.2.natAbs = 1
  rw [en]
  exact h4
theorem tot_add {f : Key → Int × Int} {x : Str} {e : Int × Int} {B C : Nat} (hf : ∀ k, Okb B (f k)) (he : Okb C e) : ∀ k, tstep f (x, e) k = fplus (f k) (ftimes (if k = .inr x then e else (0, 1)) (1, 1)) := fun k => by
  show (if k = .inr x then fplus (f k) e else f k) = _
  by_cases c : k = .inr x
  · rw [if_pos c, if_pos c, ftimes_one he]
  · rw [if_neg c, if_neg c, zero_ftimes (B := 1) ⟨by decide, by decide, by decide, by decide⟩, fplus_zero (hf k)]
end SS

namespace SS
open PySem PySem.Spec PyProof.Rows L2
def nmOf : Key → Str
  | .inr x => x
  | .inl _ => ""
open Classical in
theorem fold_keys {f : Key → Int × Int} : ∀ {kvs : List (Key × V)}, (kvs.map (fun x : Key × V => x.1)).Nodup → (∀ p ∈ kvs, ∃ x, p.1 = .inr x) → ∀ (b : Key → Int × Int) (k : Key), ((kvs.map fun q => (nmOf q.1, f q.1)).foldl tstep b) k = if k ∈ kvs.map (fun x : Key × V => x.1) then fplus (b k) (f k) else b k
  | [], _, _, b, k => by
    rw [if_neg (by rw [List.map_nil]; exact List.not_mem_nil)]
    rfl
  | p :: r, hn, hx, b, k => by
    obtain ⟨n1, n2⟩ := List.nodup_cons.mp hn
    obtain ⟨x, ex⟩ := hx p List.mem_cons_self
    rw [List.map_cons, List.foldl_cons, fold_keys n2 (fun q hq => hx q (List.mem_cons_of_mem _ hq)), List.map_cons]
    have e1 : nmOf p.1 = x := by rw [ex]; rfl
    have et : ∀ k', tstep b (nmOf p.1, f p.1) k' = if k' = p.1 then fplus (b k') (f p.1) else b k' := fun k' => by
      rw [e1]
      show (if k' = .inr x then fplus (b k') (f p.1) else b k') = _
      rw [ex]
    rw [et k]
    by_cases c : k = p.1
    · subst c
      rw [if_neg n1, if_pos rfl, if_pos List.mem_cons_self]
    · rw [if_neg c]
      by_cases d : k ∈ r.map (fun x : Key × V => x.1)
      · rw [if_pos d, if_pos (List.mem_cons_of_mem _ d)]
      · rw [if_neg d, if_neg fun z => by
          rcases List.mem_cons.mp z with z | z
          · exact c z
          · exact d z]
theorem DM.out {z : Prop} {m : Nat} {H : Hp} {a : Addr} {kvs : List (Key × V)} {f : Key → Int × Int} (h : DM z m H a kvs f) {k : Key} (c : ¬ k ∈ kvs.map (·.1)) : f k = (0, 1) := by
  cases e : valV kvs k with
  | none => exact h.2.2.2.2 k e
  | some v => exact absurd (valV_in e) c
open Classical in
theorem tot_two {z z' : Prop} {m m' : Nat} {H H' : Hp} {a b : Addr} {kvs ls : List (Key × V)} {f g : Key → Int × Int} {B : Nat} (h : DM z m H a kvs f) (h' : DM z' m' H' b ls g) (hf : ∀ k, Okb B (f k)) (k : Key) :
    tot ((kvs.map fun q => (nmOf q.1, f q.1)) ++ (ls.map fun q => (nmOf q.1, g q.1))) k = fplus (f k) (g k) := by
  unfold tot
  rw [List.foldl_append, fold_keys h'.2.1 (fun p hp => let ⟨x, e, _⟩ := (h'.2.2.2.1 p hp).1; ⟨x, e⟩), fold_keys h.2.1 (fun p hp => let ⟨x, e, _⟩ := (h.2.2.2.1 p hp).1; ⟨x, e⟩)]
  have e1 : (if k ∈ kvs.map (·.1) then fplus (0, 1) (f k) else (0, 1)) = f k := by
    by_cases c : k ∈ kvs.map (·.1)
    · rw [if_pos c, zero_fplus (hf k)]
    · rw [if_neg c, h.out c]
  rw [e1]
  by_cases c : k ∈ ls.map (·.1)
  · rw [if_pos c]
  · rw [if_neg c, h'.out c, fplus_zero (hf k)]
theorem paired_at {F : Addr → Key × V → Prop} {ts : List Addr} {kvs : List (Key × V)} (h : Paired F ts kvs) : ts.length = kvs.length ∧ ∀ (i : Nat) (t : Addr), ts[i]? = some t → ∃ q, kvs[i]? = some q ∧ F t q := by
  induction h with
  | nil => exact ⟨rfl, fun i t e => by simp at e⟩
  | cons hd tl ih =>
    refine ⟨by rw [List.length_cons, List.length_cons, ih.1], fun i t e => ?_⟩
    match i, e with
    | 0, e =>
      have z := Option.some.inj e
      subst z
      exact ⟨_, rfl, hd⟩
    | i + 1, e => exact ih.2 i t e
theorem DM.pl {z : Prop} {m : Nat} {H : Hp} {a : Addr} {kvs : List (Key × V)} {f : Key → Int × Int} {ts : List Addr} (h : DM z m H a kvs f) (hp : Paired (fun (t : Addr) (q : Key × V) => H t = some (.tup [kV q.1, q.2])) ts kvs) : PL H ts (kvs.map fun q => (nmOf q.1, f q.1)) := by
  obtain ⟨e1, e2⟩ := paired_at hp
  refine ⟨by rw [List.length_map, e1], fun i t e => ?_⟩
  obtain ⟨q, hq, ht⟩ := e2 i t e
  obtain ⟨⟨x, ex, _⟩, ⟨r, er, hr⟩, _⟩ := h.2.2.2.1 q (List.mem_of_getElem? hq)
  refine ⟨x, r, f q.1, ?_, ?_, hr⟩
  · rw [List.getElem?_map, hq]
    show some (nmOf q.1, f q.1) = some (x, f q.1)
    rw [ex]
    rfl
  · rw [ht, ex, er]
    rfl
theorem PL.append {H : Hp} {rs rs' : List Addr} {ps ps' : List (Str × (Int × Int))} (h : PL H rs ps) (h' : PL H rs' ps') : PL H (rs ++ rs') (ps ++ ps') := by
  refine ⟨by rw [List.length_append, List.length_append, h.1, h'.1], fun i r hi => ?_⟩
  by_cases c : i < rs.length
  · rw [List.getElem?_append_left c] at hi
    obtain ⟨x, q, v, e1, e2, e3⟩ := h.2 i r hi
    refine ⟨x, q, v, ?_, e2, e3⟩
    rw [List.getElem?_append_left (by rw [← h.1]; exact c)]
    exact e1
  · rw [List.getElem?_append_right (by omega)] at hi
    obtain ⟨x, q, v, e1, e2, e3⟩ := h'.2 _ r hi
    refine ⟨x, q, v, ?_, e2, e3⟩
    rw [List.getElem?_append_right (by rw [← h.1]; omega), ← h.1]
    exact e1
theorem merge_nd : ∀ (more acc : List (Key × V)), ((acc ++ more).map (·.1)).Nodup → mergeK acc more = acc ++ more
  | [], acc, _ => by rw [List.append_nil]; rfl
  | p :: r, acc, h => by
    show mergeK (putK acc p.1 p.2) r = acc ++ p :: r
    have hn : valV acc p.1 = none := by
      cases e : valV acc p.1 with
      | none => rfl
      | some v =>
        rw [List.map_append] at h
        exact absurd rfl ((List.nodup_append.mp h).2.2 _ (valV_in e) _ List.mem_cons_self)
    rw [putK_new _ hn, merge_nd r (acc ++ [(p.1, p.2)]) (by rw [List.append_assoc]; exact h), List.append_assoc]
    rfl
theorem FrT.kept {K : PySem.W.Frag} {H H' : Hp} {a D p : Addr} {n d : Int} {kvs : List (Key × V)} (h : FrT K H p n d) (ha : H a = some (.dK kvs)) (nD : H D = none) (kp : ∀ x o, x ≠ a → x ≠ D → H x = some o → H' x = some o) : FrT K H' p n d := by
  obtain ⟨h1, h2⟩ := h
  rcases h1 with (h1 | ⟨o1, h1⟩) | ⟨o1, its, m, k1, k2, k3⟩
  · exact FrT.of (kp _ _ (fun z => by rw [z, ha] at h1; cases h1) (ne_of_none h1 nD) h1)
  · have e := kp _ _ (fun z => by rw [z, ha] at h1; cases h1) (ne_of_none h1 nD) h1
    exact ⟨.inl (.inr ⟨o1, e⟩), .fTuple e⟩
  · exact ⟨.inr ⟨o1, its, m, k1, k2, k3⟩, .kTuple k1 k2⟩
section
variable {P : Program} {w : World} {K : PySem.W.Frag} {mg : Str → Option Value} {base : Heap}
def spSumPlus : Sp := fun vs H Q _ => ∃ (a b : Addr) (kvs ls : List (Key × V)) (f g : Key → Int × Int) (m l B : Nat), vs = [.ref a, .ref b] ∧ DM True m H a kvs f ∧ DM True l H b ls g ∧ (∀ k, Okb B (f k)) ∧ (∀ k, Okb B (g k)) ∧ m + l ≤ 400 ∧ (B + 1) * (m + l) + 1 ≤ 2900 ∧ B ≤ 2900 ∧
  ∀ H' c ks, Same H H' → H c = none → DM True (m + l) H' c ks (fun k => fplus (f k) (g k)) → Q (.ref c) H'
def spSumTimes (K : PySem.W.Frag) : Sp := fun vs H Q _ => ∃ (a n : Addr) (kvs : List (Key × V)) (f : Key → Int × Int) (num : Int × Int) (m A B : Nat), vs = [.ref a, .ref n] ∧ DM True m H a kvs f ∧ FrT K H n num.1 num.2 ∧ (∀ k, Okb A (f k)) ∧ Okb B num ∧ m ≤ 400 ∧ A ≤ 2900 ∧ B ≤ 2900 ∧
  ∀ H' c ks, Same H H' → H c = none → DM True m H' c ks (fun k => ftimes (f k) num) → Q (.ref c) H'
theorem scSumTimes : FnScope ["one", "number", "unknown"] ["one", "number"] (defScope sSumTimes) := ⟨rfl, rfl, rfl, by decide +kernel, rfl, by decide +kernel, by decide +kernel⟩
theorem ok_sumtimes {f' : Addr} {fd : FuncData} (F : Fun K "sum_times" "sum_times" sSumTimes f' fd) (tm : Cl P w K mg base CX0 3 "times" (spTimes K) []) (wn : Cl P w K mg base CX0 1 "without_noughts" spWn []) : FnOk P w K mg base CX0 4 f' fd ["one", "number"] (spSumTimes K) := by
  refine F.ok scSumTimes (fun vs H Q E h => ?_) (fun cdv A outer s H vs Q E hr h => ?_)
  · obtain ⟨_, _, _, _, _, _, _, _, rfl, _⟩ := h
    rfl
  · obtain ⟨a, n, kvs, f, num, m, A', B', rfl, da, hn, okf, okn, hm, hA, hB, q⟩ := h
    have hu := hu_of hr
    refine ⟨_, pss_one (ps_ret (pc0 wn hr (by decide) (pa_cons (pe_lock (pe_dc (own := [("unknown", 2)]) (g := gName 2) (tt := tYes) rfl scSumTimes.nd (pi_keys (pv 0)) (blkOk_by (by rfl))
      (fun _ _ _ _ _ => pg_name (i := 2) scSumTimes.nd rfl (Or.inl rfl)) (fun _ _ _ _ _ => pts_nil)
      (fun _ _ _ _ _ => pv 2) (fun _ _ _ _ _ => pc0 tm hr (by decide) (pa_cons (pe_dget hu (pv 0) (pv 2) (fun _ _ => rfl)) (pa_cons (pv 1) pa_nil))))) pa_nil))), ?_⟩
    refine ⟨a, .dK kvs, da.1, trivial, fun od => ⟨_, rfl, a, od, rfl, .inl ⟨kvs, upd_same, fun D nD => ?_⟩⟩⟩
    have nDH : H D = none := by
      cases e : H D with
      | none => rfl
      | some o =>
        by_cases c : D = a
        · rw [c, upd_same] at nD
          cases nD
        · rw [upd_ne c, e] at nD
          cases nD
    have aD : a ≠ D := ne_of_none da.1 nDH
    have okt : ∀ k, Okb (A' + B') (ftimes (f k) num) := fun k => okb_times (okf k) okn
    refine ⟨fun i mm H' => ∃ ks g, i + mm = kvs.length ∧ (∀ x o, x ≠ a → x ≠ D → H x = some o → H' x = some o) ∧ H' a = some (.frz od (.dK kvs)) ∧ DM False i H' D ks g ∧ Upto (kvs.take i) (fun k => ftimes (f k) num) g,
      ⟨kvs.length, [], fun _ => (0, 1), by omega, fun x o n1 n2 e => by rw [upd_ne n2, upd_ne n1]; exact e, by rw [upd_ne aD]; exact upd_same, dm_new upd_same, fun k => ⟨fun z => absurd z List.not_mem_nil, fun _ => rfl⟩⟩, fun i mm H3 hW => ?_⟩
    obtain ⟨ks, g, em, kp, ha3, dm, up⟩ := hW
    have ml : kvs.length ≤ m := da.2.2.1
    by_cases hi : i < kvs.length
    · refine .inr ⟨⟨ha3, hi⟩, fun H' => ∃ ks g, (∀ x o, x ≠ a → x ≠ D → H x = some o → H' x = some o) ∧ H' a = some (.frz od (.dK kvs)) ∧ DM False (i + 1) H' D ks g ∧ Upto (kvs.take (i + 1)) (fun k => ftimes (f k) num) g, fun H' hN' => ?_, fun x H' hy => ?_⟩
      · obtain ⟨a1, a2, r1, r2, r3, r4⟩ := hN'
        exact ⟨mm - 1, by omega, a1, a2, by omega, r1, r2, r3, r4⟩
      · obtain ⟨rfl, key, v, hkv, rfl⟩ := hy
        obtain ⟨⟨nx, e1, okx⟩, ⟨rv, e2, e3⟩, _⟩ := da.2.2.2.1 (key, v) (List.mem_of_getElem? hkv)
        have e2' : v = .ref rv := e2
        have e1' : key = .inr nx := e1
        subst e2' e1'
        have ev : valV kvs (.inr nx) = some (.ref rv) := val_nodup da.2.1 (.inr nx, .ref rv) (List.mem_of_getElem? hkv)
        have rva : rv ≠ a := fun c => by
          rw [c, da.1] at e3
          cases e3
        have dg : DGet H' a (kV (.inr nx)) (some (.ref rv)) := .inl ⟨kvs, .inr nx, .inr ⟨od, ha3⟩, rfl, ev.symm⟩
        have o1 := okf (.inr nx)
        refine ⟨rfl, _, rfl, _, rfl, _, rfl, a, _, rfl, dg, _, rfl, (f (.inr nx)).1, (f (.inr nx)).2, num.1, num.2, ⟨rv, n, rfl, FrT.of (kp _ _ rva (ne_of_none e3 nDH) e3), hn.kept da.1 nDH kp, o1.1, okn.1, sm_mono o1.2.1 (by omega), sm_mono o1.2.2.1 (by omega), sm_mono okn.2.1 (by omega), sm_mono okn.2.2.1 (by omega), o1.2.2.2, okn.2.2.2⟩, fun r nr => ?_⟩
        have s4 := same_new (o := .tup [.int (ftimes (f (.inr nx)) num).1, .int (ftimes (f (.inr nx)) num).2]) nr
        have dm4 := dm.same s4
        refine ⟨ks, .inr nx, rfl, dm4.1, small1000 (by have := dm.2.2.1; omega), ?_⟩
        have dp := dm4.put (x := nx) (r := r) (v := ftimes (f (.inr nx)) num) okx upd_same (fun z => z.elim)
        refine ⟨_, _, ?_, ?_, dp, up.snoc hkv⟩
        · intro x o n1 n2 e
          rw [upd_ne n2]
          exact s4 _ _ (kp x o n1 n2 e)
        · rw [upd_ne aD]
          exact s4 _ _ ha3
    · have ei : kvs.take i = kvs := List.take_of_length_le (by omega)
      rw [ei] at up
      have fg : ∀ k, ftimes (f k) num = g k := fun k => by
        by_cases c : k ∈ kvs.map (·.1)
        · exact ((up k).1 c).symm
        · rw [(up k).2 c, da.out c, zero_ftimes okn]
      refine .inl ⟨⟨ha3, by omega⟩, ha3, ?_⟩
      have dmu := (dm.fn fg).unlock (o := .dK kvs) ha3 aD.symm
      have S : Same H (upd H3 a (.dK kvs)) := fun x o e => by
        by_cases c : x = a
        · subst c
          rw [upd_same, ← da.1]
          exact e
        · rw [upd_ne c]
          exact kp x o c (ne_of_none e nDH) e
      refine ⟨D, ks, fun k => ftimes (f k) num, m, A' + B', rfl, dmu.mono (by omega), by omega, okt, fun H5 c ks' s5 nc dc => q _ c ks' (S.trans s5) (S.free nc) dc⟩
def spWith : Sp := fun vs H Q _ => ∃ (a n : Addr) (x : Str) (kvs : List (Key × V)) (f : Key → Int × Int) (num : Int × Int), vs = [.ref a, .str x, .ref n] ∧ DM True 10 H a kvs f ∧ NmOk x ∧ H n = some (.tup [.int num.1, .int num.2]) ∧ num.1 ≠ 0 ∧
  ∀ H' c ks, Same H H' → H c = none → DM True 11 H' c ks (fun k => if k = .inr x then num else f k) → Q (.ref c) H'
def spOpp : Sp := fun vs H Q _ => ∃ (a : Addr) (kvs : List (Key × V)) (f : Key → Int × Int), vs = [.ref a] ∧ DM True 10 H a kvs f ∧
  ∀ H' c ks, Same H H' → H c = none → DM True 10 H' c ks (fun k => (0 - (f k).1, (f k).2)) → Q (.ref c) H'
theorem Paired.snocX {F : Addr → Key × V → Prop} {ts : List Addr} {ks : List (Key × V)} {t : Addr} {q : Key × V} (h : Paired F ts ks) (e : F t q) : Paired F (ts ++ [t]) (ks ++ [q]) := by
  induction h with
  | nil => exact .cons e .nil
  | cons hd tl ih => exact .cons hd ih
theorem Paired.impX {F G : Addr → Key × V → Prop} {ts : List Addr} {ks : List (Key × V)} (h : Paired F ts ks) (i : ∀ t q, F t q → G t q) : Paired G ts ks := by
  induction h with
  | nil => exact .nil
  | cons hd tl ih => exact .cons (i _ _ hd) ih
end
end SS

namespace SS
open PySem PySem.Spec PyProof.Rows L2
/-- what a drawn sum says -/
def pval (H : Hp) (ls : List (Key × V)) (k : Key) : Int × Int := match valV ls k with
  | some v => fval H v
  | none => (0, 1)
theorem DF.dm {k m : Nat} {H : Hp} {a : Addr} {kvs : List (Key × V)} (h : DF k m H a kvs) (z : NZ H kvs) : DM True m H a kvs (pval H kvs) := by
  refine ⟨h.1, h.2.1, h.2.2.1, fun p hp => ?_, fun y e => ?_⟩
  · obtain ⟨x, r, e1, e2, e3, e4⟩ := h.2.2.2 p hp
    have ev : pval H kvs p.1 = fval H p.2 := by
      unfold pval
      rw [val_nodup h.2.1 p hp]
    refine ⟨⟨x, e1, e2⟩, ⟨r, e3, ?_⟩, fun _ => ?_⟩
    · rw [ev, e3]
      exact e4.val.1
    · rw [ev]
      exact z p hp
  · unfold pval
    rw [e]
theorem DF.okp {k m : Nat} {H : Hp} {a : Addr} {kvs : List (Key × V)} (h : DF (k + 1) m H a kvs) (y : Key) : Okb (k + 1) (pval H kvs y) := by
  unfold pval
  cases e : valV kvs y with
  | none => exact okb_zero k
  | some v =>
    obtain ⟨p, hp, _, e2⟩ := mem_valV e
    obtain ⟨x, r, _, _, e3, e4⟩ := h.2.2.2 p hp
    rw [← e2, e3]
    exact e4.okb
theorem DM.but {z : Prop} {m : Nat} {H H' : Hp} {st c a : Addr} {kvs : List (Key × V)} {f : Key → Int × Int} (h : DM z m H a kvs f) (s : But st H H') (y : StA st c H) : DM z m H' a kvs f := by
  obtain ⟨h1, h2, h3, h4, h5⟩ := h
  refine ⟨s _ _ (fun e => ?_) h1, h2, h3, fun p hp => ?_, h5⟩
  · obtain ⟨i, n, ff, xs, g1, _⟩ := y
    rw [e, g1] at h1
    cases h1
  · obtain ⟨e1, ⟨r, e2, e3⟩, e4⟩ := h4 p hp
    exact ⟨e1, ⟨r, e2, s.tup y e3⟩, e4⟩
/-- another dict changes -/
theorem DM.upd {z : Prop} {m : Nat} {H : Hp} {a b : Addr} {kvs ks : List (Key × V)} {f : Key → Int × Int} {o : HO} (h : DM z m H a kvs f) (hb : H b = some (.dK ks)) (n : a ≠ b) : DM z m (upd H b o) a kvs f :=
  h.lk hb n fun x o nx e => by rw [upd_ne nx]; exact e
theorem cutTake4 {xs : List V} {d : Int} (h : 0 ≤ d) : cutV xs none (some d) = xs.take d.toNat := by
  obtain ⟨n, rfl⟩ := Int.eq_ofNat_of_zero_le h
  unfold cutV
  rw [HT.sIx_none, show HT.sIx xs.length xs.length (some (n : Int)) = min n xs.length from HT.sIx_nat xs.length xs.length n]
  show List.take (min n xs.length - 0) (xs.drop 0) = xs.take (n : Int).toNat
  rw [List.drop_zero, Nat.sub_zero, Int.toNat_natCast]
  by_cases c : n ≤ xs.length
  · rw [Nat.min_eq_left c]
  · rw [Nat.min_eq_right (by omega), List.take_length, List.take_of_length_le (by omega)]
theorem zz_ok : NmOk "zz" := by decide +kernel
theorem same_growX {H H1 : Hp} {p : Addr} {o : HO} (s : Same H H1) (n : H p = none) : Same H (upd H1 p o) := fun b x e => by
  rw [upd_ne (ne_of_none e n)]
  exact s b x e
end SS

namespace SS
/-! ### fractions as Lean's own rational numbers -/
def Lo (a : Int × Int) : Prop := 0 < a.2 ∧ Int.gcd a.1 a.2 = 1
def toQ (a : Int × Int) : Rat := Rat.divInt a.1 a.2
theorem toQ_fr {t b : Int} (h : b ≠ 0) : toQ (fr1 t b, fr2 t b) = Rat.divInt t b :=
  (Rat.divInt_eq_divInt_iff (Int.ne_of_gt (fr2_pos h)) h).mpr (fr_cross h)
theorem lo_fr {t b : Int} (h : b ≠ 0) : Lo (fr1 t b, fr2 t b) := ⟨fr2_pos h, fr_gcd h⟩
theorem Lo.nz {a b : Int × Int} (ha : 0 < a.2) (hb : 0 < b.2) : a.2 * b.2 ≠ 0 := Int.ne_of_gt (Int.mul_pos ha hb)
theorem toQ_plus {a b : Int × Int} (ha : 0 < a.2) (hb : 0 < b.2) : toQ (fplus a b) = toQ a + toQ b := by
  show toQ (fr1 _ _, fr2 _ _) = Rat.divInt a.1 a.2 + Rat.divInt b.1 b.2
  rw [toQ_fr (Lo.nz ha hb), Rat.divInt_add_divInt _ _ (Int.ne_of_gt ha) (Int.ne_of_gt hb)]
theorem toQ_times {a b : Int × Int} (ha : 0 < a.2) (hb : 0 < b.2) : toQ (ftimes a b) = toQ a * toQ b := by
  show toQ (fr1 _ _, fr2 _ _) = Rat.divInt a.1 a.2 * Rat.divInt b.1 b.2
  rw [toQ_fr (Lo.nz ha hb), Rat.divInt_mul_divInt]
theorem lo_plus {a b : Int × Int} (ha : 0 < a.2) (hb : 0 < b.2) : Lo (fplus a b) := lo_fr (Lo.nz ha hb)
theorem lo_times {a b : Int × Int} (ha : 0 < a.2) (hb : 0 < b.2) : Lo (ftimes a b) := lo_fr (Lo.nz ha hb)
theorem Okb.lo {k : Nat} {a : Int × Int} (h : Okb k a) : Lo a := ⟨h.1, h.2.2.2⟩
theorem lo_zero : Lo (0, 1) := ⟨by decide, by decide⟩
theorem toQ_zero : toQ (0, 1) = 0 := by
  show Rat.divInt 0 1 = 0
  exact Rat.zero_divInt 1
theorem toQ_one : toQ (1, 1) = 1 := by
  show Rat.divInt 1 1 = 1
  rfl
theorem dvd_cop {a b c : Int} (z : a ∣ b * c) (h : Int.gcd a b = 1) : a ∣ c := by
  rw [← Int.natAbs_dvd_natAbs] at z ⊢
  rw [Int.natAbs_mul] at z
  exact Nat.Coprime.dvd_of_dvd_mul_left h z
/-- in lowest terms there is one pair for a worth -/
theorem toQ_inj {a b : Int × Int} (ha : Lo a) (hb : Lo b) (h : toQ a = toQ b) : a = b := by
  have e : a.1 * b.2 = b.1 * a.2 := (Rat.divInt_eq_divInt_iff (Int.ne_of_gt ha.1) (Int.ne_of_gt hb.1)).mp h
  have d1 : a.2 ∣ b.2 := by
    have z : a.2 ∣ a.1 * b.2 := ⟨b.1, by rw [e, Int.mul_comm]⟩
    exact dvd_cop z (by rw [Int.gcd_comm]; exact ha.2)
  have d2 : b.2 ∣ a.2 := by
    have z : b.2 ∣ b.1 * a.2 := ⟨a.1, by rw [← e, Int.mul_comm]⟩
    exact dvd_cop z (by rw [Int.gcd_comm]; exact hb.2)
  have e2 : a.2 = b.2 := Int.dvd_antisymm (Int.le_of_lt ha.1) (Int.le_of_lt hb.1) d1 d2
  have e1 : a.1 = b.1 := by
    rw [e2] at e
    exact Int.eq_of_mul_eq_mul_right (Int.ne_of_gt hb.1) e
  exact Prod.ext e1 e2
theorem toQ_eq_iff {a b : Int × Int} (ha : Lo a) (hb : Lo b) : a = b ↔ toQ a = toQ b := ⟨fun e => e ▸ rfl, toQ_inj ha hb⟩
theorem toQ_lt_iff {a b : Int × Int} (ha : 0 < a.2) (hb : 0 < b.2) : a.1 * b.2 < b.1 * a.2 ↔ toQ a < toQ b := by
  have hx : ((a.2 : Int) : Rat) ≠ 0 := by
    intro e
    have : a.2 = 0 := by exact_mod_cast e
    omega
  have hy : ((b.2 : Int) : Rat) ≠ 0 := by
    intro e
    have : b.2 = 0 := by exact_mod_cast e
    omega
  have px : (0 : Rat) < ((a.2 : Int) : Rat) := by exact_mod_cast ha
  have py : (0 : Rat) < ((b.2 : Int) : Rat) := by exact_mod_cast hb
  have ea : toQ a * (a.2 : Rat) = (a.1 : Rat) := by
    unfold toQ
    rw [Rat.divInt_eq_div, Rat.div_mul_cancel hx]
  have eb : toQ b * (b.2 : Rat) = (b.1 : Rat) := by
    unfold toQ
    rw [Rat.divInt_eq_div, Rat.div_mul_cancel hy]
  have k1 : ((a.1 * b.2 : Int) : Rat) = toQ a * ((a.2 : Rat) * (b.2 : Rat)) := by
    rw [Rat.intCast_mul, ← ea]; grind
  have k2 : ((b.1 * a.2 : Int) : Rat) = toQ b * ((a.2 : Rat) * (b.2 : Rat)) := by
    rw [Rat.intCast_mul, ← eb]; grind
  have pp : (0 : Rat) < (a.2 : Rat) * (b.2 : Rat) := Rat.mul_pos px py
  rw [← Rat.mul_lt_mul_right pp, ← k1, ← k2]
  exact (Rat.intCast_lt_intCast).symm
/-! ### sums over keys -/
def sumQ {α : Type _} (F : α → Rat) (ks : List α) : Rat := ks.foldr (fun k r => F k + r) 0
theorem sumQ_perm {α : Type _} {F : α → Rat} {ks ls : List α} (h : ks.Perm ls) : sumQ F ks = sumQ F ls :=
  h.foldr_eq' (fun x _ y _ z => by grind) 0
theorem sumQ_filter {α : Type _} {F : α → Rat} {p : α → Bool} : ∀ {ks : List α}, (∀ k ∈ ks, p k = false → F k = 0) → sumQ F (ks.filter p) = sumQ F ks
  | [], _ => rfl
  | k :: ks, h => by
    have i := sumQ_filter (F := F) (p := p) (ks := ks) fun x hx => h x (.tail _ hx)
    cases e : p k with
    | true =>
      rw [List.filter_cons_of_pos e]
      show F k + sumQ F (ks.filter p) = F k + sumQ F ks
      rw [i]
    | false =>
      rw [List.filter_cons_of_neg (by rw [e]; decide), i]
      show sumQ F ks = F k + sumQ F ks
      rw [h k (.head _) e, Rat.zero_add]
open Classical in
/-- a sum over unlike keys hangs on what isn't nought alone -/
theorem sumQ_ext {α : Type _} {F : α → Rat} {ks ls : List α} (nk : ks.Nodup) (nl : ls.Nodup) (hk : ∀ k, k ∉ ks → F k = 0) (hl : ∀ k, k ∉ ls → F k = 0) : sumQ F ks = sumQ F ls := by
  let p : α → Bool := fun k => decide (F k ≠ 0)
  have z : ∀ k, p k = false → F k = 0 := fun k e => by
    have : ¬ (F k ≠ 0) := of_decide_eq_false e
    exact Classical.not_not.mp this
  have t : ∀ k, p k = true → F k ≠ 0 := fun k e => of_decide_eq_true e
  rw [← sumQ_filter (p := p) (ks := ks) fun k _ e => z k e, ← sumQ_filter (p := p) (ks := ls) fun k _ e => z k e]
  refine sumQ_perm ((List.perm_ext_iff_of_nodup (nk.sublist List.filter_sublist) (nl.sublist List.filter_sublist)).mpr fun k => ?_)
  rw [List.mem_filter, List.mem_filter]
  constructor
  · intro ⟨_, e⟩
    exact ⟨Classical.byContradiction fun n => t k e (hl k n), e⟩
  · intro ⟨_, e⟩
    exact ⟨Classical.byContradiction fun n => t k e (hk k n), e⟩
theorem sumQ_add {α : Type _} {F G : α → Rat} : ∀ ks : List α, sumQ (fun k => F k + G k) ks = sumQ F ks + sumQ G ks
  | [] => by show (0 : Rat) = 0 + 0; grind
  | k :: ks => by
    have i := sumQ_add (F := F) (G := G) ks
    show F k + G k + sumQ (fun k => F k + G k) ks = F k + sumQ F ks + (G k + sumQ G ks)
    rw [i]; grind
theorem sumQ_mul {α : Type _} {F : α → Rat} (c : Rat) : ∀ ks : List α, sumQ (fun k => F k * c) ks = sumQ F ks * c
  | [] => by show (0 : Rat) = 0 * c; grind
  | k :: ks => by
    have i := sumQ_mul (F := F) c ks
    show F k * c + sumQ (fun k => F k * c) ks = (F k + sumQ F ks) * c
    rw [i]; grind
theorem sumQ_congr {α : Type _} {F G : α → Rat} : ∀ {ks : List α}, (∀ k ∈ ks, F k = G k) → sumQ F ks = sumQ G ks
  | [], _ => rfl
  | k :: ks, h => by
    show F k + sumQ F ks = G k + sumQ G ks
    rw [h k (.head _), sumQ_congr fun x hx => h x (.tail _ hx)]
/-- a worth, taken key by key -/
def wof {α : Type _} (f g : α → Int × Int) (ks : List α) : Int × Int := ks.foldl (fun acc k => fplus acc (ftimes (f k) (g k))) (0, 1)
theorem wof_gen {α : Type _} {f g : α → Int × Int} (hf : ∀ k, Lo (f k)) (hg : ∀ k, Lo (g k)) : ∀ (ks : List α) (acc : Int × Int), Lo acc →
    Lo (ks.foldl (fun acc k => fplus acc (ftimes (f k) (g k))) acc) ∧ toQ (ks.foldl (fun acc k => fplus acc (ftimes (f k) (g k))) acc) = toQ acc + sumQ (fun k => toQ (f k) * toQ (g k)) ks
  | [], acc, h => ⟨h, by show toQ acc = toQ acc + 0; grind⟩
  | k :: ks, acc, h => by
    have t := lo_times (hf k).1 (hg k).1
    obtain ⟨i1, i2⟩ := wof_gen hf hg ks _ (lo_plus h.1 t.1)
    refine ⟨i1, ?_⟩
    show toQ (ks.foldl (fun acc k => fplus acc (ftimes (f k) (g k))) (fplus acc (ftimes (f k) (g k)))) = _
    rw [i2, toQ_plus h.1 t.1, toQ_times (hf k).1 (hg k).1]
    show _ = toQ acc + (toQ (f k) * toQ (g k) + sumQ (fun k => toQ (f k) * toQ (g k)) ks)
    grind
theorem wof_lo {α : Type _} {f g : α → Int × Int} (hf : ∀ k, Lo (f k)) (hg : ∀ k, Lo (g k)) (ks : List α) : Lo (wof f g ks) := (wof_gen hf hg ks _ lo_zero).1
theorem wof_q {α : Type _} {f g : α → Int × Int} (hf : ∀ k, Lo (f k)) (hg : ∀ k, Lo (g k)) (ks : List α) : toQ (wof f g ks) = sumQ (fun k => toQ (f k) * toQ (g k)) ks := by
  have e := (wof_gen hf hg ks _ lo_zero).2
  rw [toQ_zero, Rat.zero_add] at e
  exact e
open Classical in
/-- the worth of a sum of sums -/
theorem wof_plus {α : Type _} {f g h p : α → Int × Int} {ks ls ms : List α} (hf : ∀ k, Lo (f k)) (hg : ∀ k, Lo (g k)) (hh : ∀ k, Lo (h k)) (hp : ∀ k, Lo (p k))
    (nk : ks.Nodup) (nl : ls.Nodup) (nm : ms.Nodup) (ok : ∀ k, k ∉ ks → f k = (0, 1)) (ol : ∀ k, k ∉ ls → g k = (0, 1)) (om : ∀ k, k ∉ ms → h k = (0, 1)) (e : ∀ k, toQ (h k) = toQ (f k) + toQ (g k)) :
    wof h p ms = fplus (wof f p ks) (wof g p ls) := by
  have lf := wof_lo hf hp ks
  have lg := wof_lo hg hp ls
  refine toQ_inj (wof_lo hh hp ms) (lo_plus lf.1 lg.1) ?_
  rw [toQ_plus lf.1 lg.1, wof_q hh hp, wof_q hf hp, wof_q hg hp]
  let us := (ks ++ (ls.filter fun k => decide (k ∉ ks)))
  let vs := us ++ (ms.filter fun k => decide (k ∉ us))
  have nus : us.Nodup := List.nodup_append.mpr ⟨nk, nl.sublist List.filter_sublist, fun a ha b hb e => by
    subst e
    exact of_decide_eq_true (List.mem_filter.mp hb).2 ha⟩
  have nvs : vs.Nodup := List.nodup_append.mpr ⟨nus, nm.sublist List.filter_sublist, fun a ha b hb e => by
    subst e
    exact of_decide_eq_true (List.mem_filter.mp hb).2 ha⟩
  have iu : ∀ k, k ∉ us → k ∉ ks ∧ k ∉ ls := fun k n => ⟨fun c => n (List.mem_append_left _ c), fun c => n (by
    by_cases z : k ∈ ks
    · exact List.mem_append_left _ z
    · exact List.mem_append_right _ (List.mem_filter.mpr ⟨c, decide_eq_true z⟩))⟩
  have iv : ∀ k, k ∉ vs → k ∉ us ∧ k ∉ ms := fun k n => ⟨fun c => n (List.mem_append_left _ c), fun c => n (by
    by_cases z : k ∈ us
    · exact List.mem_append_left _ z
    · exact List.mem_append_right _ (List.mem_filter.mpr ⟨c, decide_eq_true z⟩))⟩
  have zz : ∀ {f' : α → Int × Int} {k : α}, f' k = (0, 1) → toQ (f' k) * toQ (p k) = 0 := fun e => by rw [e, toQ_zero, Rat.zero_mul]
  rw [sumQ_ext (F := fun k => toQ (h k) * toQ (p k)) nm nvs (fun k n => zz (om k n)) (fun k n => zz (om k (iv k n).2)),
    sumQ_ext (F := fun k => toQ (f k) * toQ (p k)) nk nvs (fun k n => zz (ok k n)) (fun k n => zz (ok k (iu k (iv k n).1).1)),
    sumQ_ext (F := fun k => toQ (g k) * toQ (p k)) nl nvs (fun k n => zz (ol k n)) (fun k n => zz (ol k (iu k (iv k n).1).2)),
    ← sumQ_add]
  exact sumQ_congr fun k _ => by rw [e k]; grind
/-- the worth of a sum so many times -/
theorem wof_times {α : Type _} {f h p : α → Int × Int} {n : Int × Int} {ks ms : List α} (hf : ∀ k, Lo (f k)) (hh : ∀ k, Lo (h k)) (hp : ∀ k, Lo (p k)) (hn : Lo n)
    (nk : ks.Nodup) (nm : ms.Nodup) (ok : ∀ k, k ∉ ks → f k = (0, 1)) (om : ∀ k, k ∉ ms → h k = (0, 1)) (e : ∀ k, toQ (h k) = toQ (f k) * toQ n) : wof h p ms = ftimes (wof f p ks) n := by
  have lf := wof_lo hf hp ks
  refine toQ_inj (wof_lo hh hp ms) (lo_times lf.1 hn.1) ?_
  rw [toQ_times lf.1 hn.1, wof_q hh hp, wof_q hf hp, ← sumQ_mul]
  have z0 : ∀ k, k ∉ ks → toQ (f k) * toQ (p k) * toQ n = 0 := fun k c => by rw [ok k c, toQ_zero]; grind
  rw [sumQ_ext (F := fun k => toQ (f k) * toQ (p k) * toQ n) (ks := ks) (ls := ms) nk nm z0 (fun k c => by
    have z : toQ (h k) = 0 := by rw [om k c, toQ_zero]
    have z2 := e k
    rw [z] at z2
    have : toQ (f k) * toQ (p k) * toQ n = (toQ (f k) * toQ n) * toQ (p k) := by grind
    rw [this, ← z2, Rat.zero_mul])]
  exact sumQ_congr fun k _ => by rw [e k]; grind
end SS

namespace SS
open PySem PySem.Spec PyProof.Rows L2
/-! ### worths of dicts that are functions -/
theorem wof_take {f g : Key → Int × Int} {kvs : List (Key × V)} {i : Nat} {p : Key × V} (h : kvs[i]? = some p) :
    wof f g ((kvs.take (i + 1)).map (·.1)) = fplus (wof f g ((kvs.take i).map (·.1))) (ftimes (f p.1) (g p.1)) := by
  unfold wof
  rw [List.take_add_one, h]
  show ((kvs.take i ++ [p]).map (·.1)).foldl _ (0, 1) = _
  rw [List.map_append, List.foldl_append]
  rfl
theorem wb_step {c i : Nat} (h : 2 ≤ c) : c * (i + 1) + (c - 2) + 1 ≤ c * (i + 1 + 1) := by
  have e : c * (i + 1 + 1) = c * (i + 1) + c := Nat.mul_succ ..
  omega
theorem wb_le {c i m : Nat} (h : i ≤ m) (hm : c * (m + 1) ≤ 3000) : c * (i + 1) ≤ 3000 := Nat.le_trans (Nat.mul_le_mul_left c (by omega)) hm
theorem wb_c {c m : Nat} (hm : c * (m + 1) ≤ 3000) : c ≤ 3000 := by
  have := wb_le (c := c) (i := 0) (Nat.zero_le m) hm
  omega
def Lk (a : Addr) (H H' : Hp) : Prop := ∀ b o, b ≠ a → H b = some o → H' b = some o
section
variable {P : Program} {w : World} {K : PySem.W.Frag} {mg : Str → Option Value} {base : Heap}
def spWorth (K : PySem.W.Frag) : Sp := fun vs H Q _ => ∃ (a b : Addr) (kvs ls : List (Key × V)) (f g : Key → Int × Int) (z z' : Prop) (m m' A B : Nat), vs = [.ref a, .ref b] ∧ DM z m H a kvs f ∧ DM z' m' H b ls g ∧
  (∀ k, Okb A (f k)) ∧ (∀ k, Okb B (g k)) ∧ (A + B + 2) * (m + 1) ≤ 3000 ∧ a ≠ b ∧
  ∀ H' r, Same H H' → FrT K H' r (wof f g (kvs.map (·.1))).1 (wof f g (kvs.map (·.1))).2 → Okb ((A + B + 2) * (m + 1)) (wof f g (kvs.map (·.1))) → Q (.ref r) H'
theorem scWorth : FnScope ["one", "point", "worth", "unknown", "number"] ["one", "point"] (defScope sWorth) := ⟨rfl, rfl, rfl, by decide +kernel, rfl, by decide +kernel, by decide +kernel⟩
theorem ok_worth {f' aN : Addr} {fd : FuncData} (F : Fun K "worth_at" "worth_at" sWorth f' fd) (gN : mg "NOUGHT" = some (.ref aN)) (hN : ∀ H, FrT K H aN 0 1) (pl : Cl P w K mg base CX0 3 "plus" (spPlus K) []) (tm : Cl P w K mg base CX0 3 "times" (spTimes K) []) :
    FnOk P w K mg base CX0 4 f' fd ["one", "point"] (spWorth K) := by
  refine F.ok scWorth (fun vs H Q E h => ?_) (fun cdv A' outer s H vs Q E hr h => ?_)
  · obtain ⟨_, _, _, _, _, _, _, _, _, _, _, _, rfl, _⟩ := h
    rfl
  · obtain ⟨a, b, kvs, ls, f, g, z, z', m, m', A, B, rfl, da, db, okf, okg, hm, nab, q⟩ := h
    have hu := hu_of hr
    have wf : ∀ i, i ≤ m → (A + B + 2) * (i + 1) ≤ 3000 := fun i hi => wb_le hi hm
    have wc : A + B + 2 ≤ 3000 := wb_c hm
    refine ⟨_, pss_cons (ps_set (i := 2) scWorth.nd rfl (.inl rfl) (pe_glob (v := .ref aN) (by rfl) gN rfl))
      (pss_cons (ps_lock (ps_for PassesOwn.never rfl (pi_items (pv 0)) (pg_tup rfl (pgs_cons (pg_name (i := 3) scWorth.nd rfl (.inl rfl)) (pgs_cons (pg_name (i := 4) scWorth.nd rfl (.inl rfl)) pgs_nil)))
        (pss_one (ps_set (i := 2) scWorth.nd rfl (.inl rfl) (pc0 pl hr (by decide) (pa_cons (pv 2) (pa_cons (pc0 tm hr (by decide) (pa_cons (pv 4) (pa_cons (pe_dget2 hu (pv 1) (pv 3) (pe_glob (v := .ref aN) (by rfl) gN rfl) ⟨rfl, rfl, rfl, rfl⟩) pa_nil))) pa_nil)))))))
      (pss_one (ps_ret (pv 2)))), ?_⟩
    refine ⟨a, .dK kvs, da.1, trivial, fun od => ?_⟩
    have l0 : Lk a H (upd H a (.frz od (.dK kvs))) := fun b' o nb e => by
      rw [upd_ne nb]
      exact e
    refine ⟨_, rfl, a, od, kvs, rfl, upd_same, ?_⟩
    refine ⟨fun i n σ H' => ∃ (y3 y4 : Option V) (r : Addr), σ = [some (.ref a), some (.ref b), some (.ref r), y3, y4] ∧ i + n = kvs.length ∧ Lk a H H' ∧ H' a = some (.frz od (.dK kvs)) ∧
        FrT K H' r (wof f g ((kvs.take i).map (·.1))).1 (wof f g ((kvs.take i).map (·.1))).2 ∧ Okb ((A + B + 2) * (i + 1)) (wof f g ((kvs.take i).map (·.1))),
      ⟨kvs.length, none, none, aN, rfl, by omega, l0, upd_same, hN _, (okb_zero (A + B + 1)).mono (by rw [Nat.zero_add, Nat.mul_one]; exact Nat.le_refl _)⟩, fun i n σ H3 hW => ?_⟩
    obtain ⟨y3, y4, r, rfl, em, lk, ha3, fr, ok⟩ := hW
    have h6 : kvs.length ≤ m := da.2.2.1
    by_cases hi : i < kvs.length
    · refine .inr ⟨⟨ha3, hi⟩, fun σ' H' => ∃ (y3 y4 : Option V) (r : Addr), σ' = [some (.ref a), some (.ref b), some (.ref r), y3, y4] ∧ Lk a H H' ∧ H' a = some (.frz od (.dK kvs)) ∧
          FrT K H' r (wof f g ((kvs.take (i + 1)).map (·.1))).1 (wof f g ((kvs.take (i + 1)).map (·.1))).2 ∧ Okb ((A + B + 2) * (i + 1 + 1)) (wof f g ((kvs.take (i + 1)).map (·.1))), fun σ' H' hN' => ?_, fun x H' hy => ?_⟩
      · obtain ⟨a1, a2, a3, r1, r2, r3, r4, r5⟩ := hN'
        exact ⟨n - 1, by omega, a1, a2, a3, r1, by omega, r2, r3, r4, r5⟩
      · obtain ⟨T, k, v, hkv, rfl, nT, rfl⟩ := hy
        obtain ⟨e1, ⟨rv, e2, e3⟩, e4⟩ := da.2.2.2.1 (k, v) (List.mem_of_getElem? hkv)
        have e2' : v = .ref rv := e2
        subst e2'
        have e3' : H rv = some (.tup [.int (f k).1, .int (f k).2]) := e3
        have sT := same_new (o := .tup [kV k, .ref rv]) nT
        have lk4 : Lk a H (upd H3 T (.tup [kV k, .ref rv])) := fun b' o nb e => sT _ _ (lk b' o nb e)
        have ha4 := sT _ _ ha3
        have fr4 := fr.new sT
        have gT : (upd H3 T (.tup [kV k, .ref rv])) T = some (.tup [kV k, .ref rv]) := upd_same
        generalize upd H3 T (.tup [kV k, .ref rv]) = H4 at lk4 ha4 fr4 gT ⊢
        refine ⟨T, _, rfl, SqT.of gT, rfl, _, _, rfl, _, _, rfl, rfl, ?_⟩
        have db4 := db.lk da.1 nab.symm lk4
        have okv : Okb A (f k) := okf k
        have okp : Okb B (g k) := okg k
        have rva : rv ≠ a := fun c => by
          rw [c, da.1] at e3'
          cases e3'
        have fv4 : FrT K H4 rv (f k).1 (f k).2 := FrT.of (lk4 _ _ rva e3')
        obtain ⟨rp, ep, fp⟩ : ∃ rp, (valV ls k).getD (.ref aN) = .ref rp ∧ FrT K H4 rp (g k).1 (g k).2 := by
          cases e : valV ls k with
          | none =>
            rw [db4.2.2.2.2 k e]
            exact ⟨aN, rfl, hN _⟩
          | some v' =>
            obtain ⟨r', rfl, f'⟩ := db4.get e
            exact ⟨r', rfl, FrT.of f'⟩
        refine ⟨_, rfl, _, rfl, _, rfl, b, rfl, .inl ⟨ls, .inl db4.1⟩, _, rfl, valV ls k, DGet.k (k := k) db4.1, ?_⟩
        refine ⟨(f k).1, (f k).2, (g k).1, (g k).2, ⟨rv, rp, by rw [ep]; rfl, fv4, fp, okv.1, okp.1, sm_mono okv.2.1 (by omega), sm_mono okv.2.2.1 (by omega), sm_mono okp.2.1 (by omega), sm_mono okp.2.2.1 (by omega), okv.2.2.2, okp.2.2.2⟩, fun r1 nr1 => ?_⟩
        have okt : Okb (A + B) (ftimes (f k) (g k)) := okb_times okv okp
        have s5 := same_new (o := .tup [.int (ftimes (f k) (g k)).1, .int (ftimes (f k) (g k)).2]) nr1
        have ok2 : Okb 3000 (wof f g ((kvs.take i).map (·.1))) := ok.mono (wf i (by omega))
        refine ⟨_, _, (ftimes (f k) (g k)).1, (ftimes (f k) (g k)).2, ⟨r, r1, rfl, fr4.new s5, FrT.of upd_same, ok.1, okt.1, ok2.2.1, ok2.2.2.1, sm_mono okt.2.1 (by omega), sm_mono okt.2.2.1 (by omega), ok.2.2.2, okt.2.2.2⟩, fun r2 nr2 => ?_⟩
        have es := wof_take (f := f) (g := g) hkv
        have s6 := same_new (o := .tup [.int (fplus (wof f g ((kvs.take i).map (·.1))) (ftimes (f k) (g k))).1, .int (fplus (wof f g ((kvs.take i).map (·.1))) (ftimes (f k) (g k))).2]) nr2
        refine ⟨_, _, r2, rfl, fun b' o nb e => s6 _ _ (s5 _ _ (lk4 b' o nb e)), s6 _ _ (s5 _ _ ha4), ?_, ?_⟩
        · rw [es]
          exact FrT.of upd_same
        · rw [es]
          exact (okb_plus ok okt).mono (wb_step (c := A + B + 2) (by omega))
    · have ei : kvs.take i = kvs := List.take_of_length_le (by omega)
      rw [ei] at fr ok
      refine .inl ⟨⟨ha3, by omega⟩, ha3, _, rfl, q _ r ?_ ?_ (ok.mono (Nat.mul_le_mul_left _ (by omega)))⟩
      · intro b' o e
        by_cases eb : b' = a
        · subst eb
          rw [upd_same, ← da.1]
          exact e
        · rw [upd_ne eb]
          exact lk b' o eb e
      · exact fr.unlock ha3
end
end SS

namespace SS
open PySem PySem.Spec PyProof.Rows L2
/-! ### dicts put together of pairs -/
def PM (H : Hp) (n : Nat) (kvs : List (Key × V)) (g : Key → Int × Int) : Prop := (kvs.map (·.1)).Nodup ∧ kvs.length ≤ n ∧
  (∀ p ∈ kvs, (∃ x, p.1 = .inr x ∧ NmOk x) ∧ (∃ r, p.2 = .ref r ∧ H r = some (.tup [.int (g p.1).1, .int (g p.1).2]))) ∧ ∀ k, valV kvs k = none → g k = (0, 1)
theorem PM.put {H : Hp} {n : Nat} {kvs : List (Key × V)} {g : Key → Int × Int} {x : Str} {r : Addr} {v : Int × Int} (h : PM H n kvs g) (hx : NmOk x) (hr : H r = some (.tup [.int v.1, .int v.2])) :
    PM H (n + 1) (putK kvs (.inr x) (.ref r)) (fun k => if k = .inr x then v else g k) := by
  obtain ⟨h2, h3, h4, h5⟩ := h
  have hv := valV_put kvs (.inr x) (y := .ref r)
  refine ⟨nd_put _ _ h2, Nat.le_trans (length_putK ..) (Nat.succ_le_succ h3), fun p hp => ?_, fun k e => ?_⟩
  · have e0 : valV (putK kvs (.inr x) (.ref r)) p.1 = some p.2 := val_nodup (nd_put _ _ h2) p hp
    rw [hv] at e0
    by_cases c : p.1 = .inr x
    · rw [if_pos c] at e0
      dsimp only
      rw [if_pos c]
      exact ⟨⟨x, c, hx⟩, ⟨r, (Option.some.inj e0).symm, hr⟩⟩
    · rw [if_neg c] at e0
      dsimp only
      rw [if_neg c]
      obtain ⟨q, hq, e1, e2⟩ := mem_valV e0
      obtain ⟨g1, ⟨r', g2, g3⟩⟩ := h4 q hq
      rw [e1] at g1 g3
      rw [e2] at g2
      exact ⟨g1, ⟨r', g2, g3⟩⟩
  · rw [hv] at e
    by_cases c : k = .inr x
    · rw [if_pos c] at e
      cases e
    · rw [if_neg c] at e
      show (if k = .inr x then v else g k) = (0, 1)
      rw [if_neg c]
      exact h5 k e
/-- a name and a fraction -/
def NF (B : Nat) (H : Hp) (p : Key × V) : Prop := ∃ (x : Str) (r : Addr) (v : Int × Int), p = (.inr x, .ref r) ∧ NmOk x ∧ H r = some (.tup [.int v.1, .int v.2]) ∧ Okb B v
theorem PM.merge {H : Hp} {B : Nat} : ∀ (ks acc : List (Key × V)) (n : Nat) (g : Key → Int × Int), PM H n acc g → (∀ k, Okb B (g k)) → (∀ p ∈ ks, NF B H p) → ∃ g', PM H (n + ks.length) (mergeK acc ks) g' ∧ ∀ k, Okb B (g' k)
  | [], acc, n, g, h, ok, _ => ⟨g, h, ok⟩
  | p :: ks, acc, n, g, h, ok, hp => by
    obtain ⟨x, r, v, rfl, hx, hr, hv⟩ := hp p (.head _)
    have h' := h.put hx hr
    obtain ⟨g', i1, i2⟩ := PM.merge ks _ _ _ h' (fun k => by
      by_cases c : k = .inr x
      · rw [if_pos c]
        exact hv
      · rw [if_neg c]
        exact ok k) fun q hq => hp q (.tail _ hq)
    refine ⟨g', ?_, i2⟩
    have e : n + (((.inr x, V.ref r) : Key × V) :: ks).length = n + 1 + ks.length := by
      rw [List.length_cons]
      omega
    rw [e]
    exact i1
theorem PM.new (H : Hp) : PM H 0 [] (fun _ => (0, 1)) := ⟨List.nodup_nil, Nat.le_refl _, fun p hp => absurd hp List.not_mem_nil, fun _ _ => rfl⟩
theorem PM.dm {H : Hp} {n : Nat} {kvs : List (Key × V)} {g : Key → Int × Int} {c : Addr} (h : PM H n kvs g) (nc : H c = none) : DM False n (upd H c (.dK kvs)) c kvs g := by
  obtain ⟨h2, h3, h4, h5⟩ := h
  refine ⟨upd_same, h2, h3, fun p hp => ?_, h5⟩
  obtain ⟨e1, r, e2, e3⟩ := h4 p hp
  exact ⟨e1, ⟨r, e2, same_new nc _ _ e3⟩, fun z => z.elim⟩
/-! ### what keeps tells -/
abbrev sorts : List Str := ["is", "most", "least", "below", "above"]
def keptB (s : Str) (W N : Rat) : Bool := if s = "is" then decide (W = N) else if s = "most" then decide (W ≤ N) else if s = "least" then decide (N ≤ W) else if s = "below" then decide (W < N) else decide (N < W)
theorem kept_is (W N : Rat) : keptB "is" W N = decide (W = N) := if_pos rfl
theorem kept_most (W N : Rat) : keptB "most" W N = decide (W ≤ N) := by
  unfold keptB
  rw [if_neg (by decide +kernel), if_pos rfl]
theorem kept_least (W N : Rat) : keptB "least" W N = decide (N ≤ W) := by
  unfold keptB
  rw [if_neg (by decide +kernel), if_neg (by decide +kernel), if_pos rfl]
theorem kept_below (W N : Rat) : keptB "below" W N = decide (W < N) := by
  unfold keptB
  rw [if_neg (by decide +kernel), if_neg (by decide +kernel), if_neg (by decide +kernel), if_pos rfl]
theorem kept_above (W N : Rat) : keptB "above" W N = decide (N < W) := by
  unfold keptB
  rw [if_neg (by decide +kernel), if_neg (by decide +kernel), if_neg (by decide +kernel), if_neg (by decide +kernel)]
theorem kept_all (W N : Rat) : keptB "is" W N = (keptB "most" W N && keptB "least" W N) ∧ keptB "below" W N = !keptB "least" W N ∧ keptB "above" W N = !keptB "most" W N := by
  rw [kept_is, kept_most, kept_least, kept_below, kept_above]
  refine ⟨?_, ?_, ?_⟩
  · rw [← Bool.decide_and]
    exact decide_eq_decide.mpr ⟨fun h => by rw [h]; exact ⟨Rat.le_refl, Rat.le_refl⟩, fun h => Rat.le_antisymm h.1 h.2⟩
  · rw [← decide_not]
    exact decide_eq_decide.mpr Rat.not_le.symm
  · rw [← decide_not]
    exact decide_eq_decide.mpr Rat.not_le.symm
section
variable {P : Program} {w : World} {K : PySem.W.Frag} {mg : Str → Option Value} {base : Heap}
def spRowOf (K : PySem.W.Frag) : Sp := fun vs H Q _ => ∃ (a n : Addr) (srt : Str) (kvs : List (Key × V)) (f : Key → Int × Int) (num : Int × Int), vs = [.ref a, .str srt, .ref n] ∧ DM True 10 H a kvs f ∧ FrT K H n num.1 num.2 ∧ srt ∈ sorts ∧
  (∀ k, Okb 2000 (f k)) ∧ Okb 2000 num ∧ ∀ H' r a' n' ks, Same H H' → H r = none → H a' = none → H' r = some (.tup [.ref a', .str srt, .ref n']) → DM True 10 H' a' ks f → FrT K H' n' num.1 num.2 → Q (.ref r) H'
def spKeeps (K : PySem.W.Frag) : Sp := fun vs H Q _ => ∃ (r a b n : Addr) (srt : Str) (kvs ls : List (Key × V)) (f g : Key → Int × Int) (num : Int × Int) (z z' : Prop) (m m' A B : Nat), vs = [.ref r, .ref b] ∧ H r = some (.tup [.ref a, .str srt, .ref n]) ∧
  DM z m H a kvs f ∧ DM z' m' H b ls g ∧ FrT K H n num.1 num.2 ∧ srt ∈ sorts ∧ (∀ k, Okb A (f k)) ∧ (∀ k, Okb B (g k)) ∧ Okb 3000 num ∧ (A + B + 2) * (m + 1) ≤ 3000 ∧ a ≠ b ∧
  ∀ H', Same H H' → Q (.bl (keptB srt (toQ (wof f g (kvs.map (·.1)))) (toQ num))) H'
end
end SS

namespace SS
open PySem PySem.Spec PyProof.Rows L2
section
variable {P : Program} {w : World} {K : PySem.W.Frag} {mg : Str → Option Value} {base : Heap}
/-! ### the law's own worth -/
theorem scLWorth : FnScope ["_law_one", "_law_point", "_law_worth_here", "_law_key"] ["_law_one", "_law_point"] (defScope sLWorth) := ⟨rfl, rfl, rfl, by decide +kernel, rfl, by decide +kernel, by decide +kernel⟩
theorem ok_lworth {f' : Addr} {fd : FuncData} (F : Fun K "_law_worth" "_law_worth" sLWorth f' fd) (pl : Cl P w K mg base CX0 3 "_law_plus" (spPlus K) []) (tm : Cl P w K mg base CX0 3 "_law_times" (spTimes K) []) :
    FnOk P w K mg base CX0 4 f' fd ["_law_one", "_law_point"] (spWorth K) := by
  refine F.ok scLWorth (fun vs H Q E h => ?_) (fun cdv A' outer s H vs Q E hr h => ?_)
  · obtain ⟨_, _, _, _, _, _, _, _, _, _, _, _, rfl, _⟩ := h
    rfl
  · obtain ⟨a, b, kvs, ls, f, g, z, z', m, m', A, B, rfl, da, db, okf, okg, hm, nab, q⟩ := h
    have hu := hu_of hr
    have wf : ∀ i, i ≤ m → (A + B + 2) * (i + 1) ≤ 3000 := fun i hi => wb_le hi hm
    have wc : A + B + 2 ≤ 3000 := wb_c hm
    refine ⟨_, pss_cons (ps_set (i := 2) scLWorth.nd rfl (.inl rfl) (pe_tup (pa_cons pe_int (pa_cons pe_int pa_nil))))
      (pss_cons (ps_lock (ps_for PassesOwn.never rfl (pi_keys (pv 0)) (pg_name (i := 3) scLWorth.nd rfl (.inl rfl))
        (pss_one (ps_set (i := 2) scLWorth.nd rfl (.inl rfl) (pc0 pl hr (by decide) (pa_cons (pv 2) (pa_cons (pc0 tm hr (by decide) (pa_cons (pe_dget hu (pv 0) (pv 3) (fun _ _ => rfl)) (pa_cons (pe_dget2 hu (pv 1) (pv 3) (pe_tup (pa_cons pe_int (pa_cons pe_int pa_nil))) ⟨rfl, rfl, rfl, rfl⟩) pa_nil))) pa_nil)))))))
      (pss_one (ps_ret (pv 2)))), ?_⟩
    refine ⟨small2, fun N0 nN0 => ?_⟩
    have s0 := same_new (o := .tup [.int 0, .int 1]) nN0
    have aN0 : a ≠ N0 := ne_of_none da.1 nN0
    have ha0 := s0 _ _ da.1
    refine ⟨a, .dK kvs, ha0, trivial, fun od => ?_⟩
    have l0 : Lk a H (upd (upd H N0 (.tup [.int 0, .int 1])) a (.frz od (.dK kvs))) := fun b' o nb e => by
      rw [upd_ne nb]
      exact s0 _ _ e
    have f1 : FrT K (upd (upd H N0 (.tup [.int 0, .int 1])) a (.frz od (.dK kvs))) N0 0 1 := FrT.of (by rw [upd_ne aN0.symm]; exact upd_same)
    refine ⟨_, rfl, a, od, rfl, .inl ⟨kvs, upd_same, ?_⟩⟩
    refine ⟨fun i n σ H' => ∃ (y3 : Option V) (r : Addr), σ = [some (.ref a), some (.ref b), some (.ref r), y3] ∧ i + n = kvs.length ∧ Lk a H H' ∧ H' a = some (.frz od (.dK kvs)) ∧
        FrT K H' r (wof f g ((kvs.take i).map (·.1))).1 (wof f g ((kvs.take i).map (·.1))).2 ∧ Okb ((A + B + 2) * (i + 1)) (wof f g ((kvs.take i).map (·.1))),
      ⟨kvs.length, none, N0, rfl, by omega, l0, upd_same, f1, (okb_zero (A + B + 1)).mono (by rw [Nat.zero_add, Nat.mul_one]; exact Nat.le_refl _)⟩, fun i n σ H3 hW => ?_⟩
    obtain ⟨y3, r, rfl, em, lk, ha3, fr, ok⟩ := hW
    have h6 : kvs.length ≤ m := da.2.2.1
    by_cases hi : i < kvs.length
    · refine .inr ⟨⟨ha3, hi⟩, fun σ' H' => ∃ (y3 : Option V) (r : Addr), σ' = [some (.ref a), some (.ref b), some (.ref r), y3] ∧ Lk a H H' ∧ H' a = some (.frz od (.dK kvs)) ∧
          FrT K H' r (wof f g ((kvs.take (i + 1)).map (·.1))).1 (wof f g ((kvs.take (i + 1)).map (·.1))).2 ∧ Okb ((A + B + 2) * (i + 1 + 1)) (wof f g ((kvs.take (i + 1)).map (·.1))), fun σ' H' hN' => ?_, fun x H' hy => ?_⟩
      · obtain ⟨a1, a3, r1, r2, r3, r4, r5⟩ := hN'
        exact ⟨n - 1, by omega, a1, a3, r1, by omega, r2, r3, r4, r5⟩
      · obtain ⟨rfl, k, v, hkv, rfl⟩ := hy
        obtain ⟨e1, ⟨rv, e2, e3⟩, e4⟩ := da.2.2.2.1 (k, v) (List.mem_of_getElem? hkv)
        have e2' : v = .ref rv := e2
        subst e2'
        have e3' : H rv = some (.tup [.int (f k).1, .int (f k).2]) := e3
        have ev : valV kvs k = some (.ref rv) := val_nodup da.2.1 (k, .ref rv) (List.mem_of_getElem? hkv)
        have hb3 := lk _ _ nab.symm db.1
        have okv : Okb A (f k) := okf k
        have okp : Okb B (g k) := okg k
        refine ⟨_, rfl, _, rfl, _, rfl, a, _, rfl, .inl ⟨kvs, k, .inr ⟨od, ha3⟩, rfl, ev.symm⟩, _, rfl, b, rfl, .inl ⟨ls, .inl hb3⟩, _, rfl, small2, fun N1 nN1 => ?_⟩
        have s4 := same_new (o := .tup [.int 0, .int 1]) nN1
        have fN1 : FrT K (upd H' N1 (.tup [.int 0, .int 1])) N1 0 1 := FrT.of upd_same
        have lk4 : Lk a H (upd H' N1 (.tup [.int 0, .int 1])) := fun b' o nb e => s4 _ _ (lk b' o nb e)
        have ha4 := s4 _ _ ha3
        have fr4 := fr.new s4
        generalize upd H' N1 (.tup [.int 0, .int 1]) = H4 at lk4 ha4 fr4 fN1 ⊢
        have db4 := db.lk da.1 nab.symm lk4
        have rva : rv ≠ a := fun c => by
          rw [c, da.1] at e3'
          cases e3'
        have fv4 : FrT K H4 rv (f k).1 (f k).2 := FrT.of (lk4 _ _ rva e3')
        obtain ⟨rp, ep, fp⟩ : ∃ rp, (valV ls k).getD (.ref N1) = .ref rp ∧ FrT K H4 rp (g k).1 (g k).2 := by
          cases e : valV ls k with
          | none =>
            rw [db4.2.2.2.2 k e]
            exact ⟨N1, rfl, fN1⟩
          | some v' =>
            obtain ⟨r', rfl, f'⟩ := db4.get e
            exact ⟨r', rfl, FrT.of f'⟩
        refine ⟨valV ls k, DGet.k (k := k) db4.1, ?_⟩
        refine ⟨(f k).1, (f k).2, (g k).1, (g k).2, ⟨rv, rp, by rw [ep]; rfl, fv4, fp, okv.1, okp.1, sm_mono okv.2.1 (by omega), sm_mono okv.2.2.1 (by omega), sm_mono okp.2.1 (by omega), sm_mono okp.2.2.1 (by omega), okv.2.2.2, okp.2.2.2⟩, fun r1 nr1 => ?_⟩
        have okt : Okb (A + B) (ftimes (f k) (g k)) := okb_times okv okp
        have s5 := same_new (o := .tup [.int (ftimes (f k) (g k)).1, .int (ftimes (f k) (g k)).2]) nr1
        have ok2 : Okb 3000 (wof f g ((kvs.take i).map (·.1))) := ok.mono (wf i (by omega))
        refine ⟨_, _, (ftimes (f k) (g k)).1, (ftimes (f k) (g k)).2, ⟨r, r1, rfl, fr4.new s5, FrT.of upd_same, ok.1, okt.1, ok2.2.1, ok2.2.2.1, sm_mono okt.2.1 (by omega), sm_mono okt.2.2.1 (by omega), ok.2.2.2, okt.2.2.2⟩, fun r2 nr2 => ?_⟩
        have es := wof_take (f := f) (g := g) hkv
        have s6 := same_new (o := .tup [.int (fplus (wof f g ((kvs.take i).map (·.1))) (ftimes (f k) (g k))).1, .int (fplus (wof f g ((kvs.take i).map (·.1))) (ftimes (f k) (g k))).2]) nr2
        refine ⟨_, r2, rfl, fun b' o nb e => s6 _ _ (s5 _ _ (lk4 b' o nb e)), s6 _ _ (s5 _ _ ha4), ?_, ?_⟩
        · rw [es]
          exact FrT.of upd_same
        · rw [es]
          exact (okb_plus ok okt).mono (wb_step (c := A + B + 2) (by omega))
    · have ei : kvs.take i = kvs := List.take_of_length_le (by omega)
      rw [ei] at fr ok
      refine .inl ⟨⟨ha3, by omega⟩, ha3, _, rfl, q _ r ?_ ?_ (ok.mono (Nat.mul_le_mul_left _ (by omega)))⟩
      · intro b' o e
        by_cases eb : b' = a
        · subst eb
          rw [upd_same, ← da.1]
          exact e
        · rw [upd_ne eb]
          exact lk b' o eb e
      · exact fr.unlock ha3
/-! ### less -/
def spLess (K : PySem.W.Frag) : Sp := fun vs H Q _ => ∃ n1 d1 n2 d2 : Int, Two K H vs n1 d1 n2 d2 ∧ Q (.bl (decide (n1 * d2 < n2 * d1))) H
theorem scLess : FnScope ["a", "b"] ["a", "b"] (defScope sLess) := ⟨rfl, rfl, rfl, by decide +kernel, rfl, by decide +kernel, by decide +kernel⟩
theorem ok_less {f : Addr} {fd : FuncData} {k : Nat} (F : Fun K "is_less" "is_less" sLess f fd) : FnOk P w K mg base CX0 (k + 1) f fd ["a", "b"] (spLess K) := by
  refine F.ok scLess (fun vs H Q E h => ?_) (fun cdv A outer s H vs Q E hr h => ?_)
  · obtain ⟨_, _, _, _, ⟨p, q, rfl, _⟩, _⟩ := h
    rfl
  · obtain ⟨n1, d1, n2, d2, ⟨p, q, rfl, h1, h2, z1, z2, b1, b2, b3, b4, _, _⟩, k⟩ := h
    refine ⟨_, pss_one (ps_ret (pe_cmpR op_lt (pe_op op_mulW (pe_ix ix_tup (pv 0) pe_int (fun _ _ => rfl)) (pe_ix ix_tup (pv 1) pe_int (fun _ _ => rfl)))
      (pe_op op_mulW (pe_ix ix_tup (pv 1) pe_int (fun _ _ => rfl)) (pe_ix ix_tup (pv 0) pe_int (fun _ _ => rfl))) (nomark _))), ?_⟩
    refine ⟨_, rfl, p, _, 0, _, rfl, rfl, h1.1, atI_nat (j := 0) rfl, _, rfl, q, _, 1, _, rfl, rfl, h2.1, atI_nat (j := 1) rfl, n1, d2, rfl, rfl, wide_mul b1 b4 (by decide) (by decide) (by decide), ?_⟩
    exact ⟨_, rfl, q, _, 0, _, rfl, rfl, h2.1, atI_nat (j := 0) rfl, _, rfl, p, _, 1, _, rfl, rfl, h1.1, atI_nat (j := 1) rfl, n2, d1, rfl, rfl, wide_mul b3 b2 (by decide) (by decide) (by decide), _, _, rfl, rfl, k⟩
theorem scLLess : FnScope ["_law_a", "_law_b"] ["_law_a", "_law_b"] (defScope sLLess) := ⟨rfl, rfl, rfl, by decide +kernel, rfl, by decide +kernel, by decide +kernel⟩
theorem ok_lless {f : Addr} {fd : FuncData} {k : Nat} (F : Fun K "_law_less" "_law_less" sLLess f fd) : FnOk P w K mg base CX0 (k + 1) f fd ["_law_a", "_law_b"] (spLess K) := by
  refine F.ok scLLess (fun vs H Q E h => ?_) (fun cdv A outer s H vs Q E hr h => ?_)
  · obtain ⟨_, _, _, _, ⟨p, q, rfl, _⟩, _⟩ := h
    rfl
  · obtain ⟨n1, d1, n2, d2, ⟨p, q, rfl, h1, h2, z1, z2, b1, b2, b3, b4, _, _⟩, k⟩ := h
    refine ⟨_, pss_one (ps_ret (pe_cmpR op_lt (pe_op op_mulW (pe_ix ix_tup (pv 0) pe_int (fun _ _ => rfl)) (pe_ix ix_tup (pv 1) pe_int (fun _ _ => rfl)))
      (pe_op op_mulW (pe_ix ix_tup (pv 1) pe_int (fun _ _ => rfl)) (pe_ix ix_tup (pv 0) pe_int (fun _ _ => rfl))) (nomark _))), ?_⟩
    refine ⟨_, rfl, p, _, 0, _, rfl, rfl, h1.1, atI_nat (j := 0) rfl, _, rfl, q, _, 1, _, rfl, rfl, h2.1, atI_nat (j := 1) rfl, n1, d2, rfl, rfl, wide_mul b1 b4 (by decide) (by decide) (by decide), ?_⟩
    exact ⟨_, rfl, q, _, 0, _, rfl, rfl, h2.1, atI_nat (j := 0) rfl, _, rfl, p, _, 1, _, rfl, rfl, h1.1, atI_nat (j := 1) rfl, n2, d1, rfl, rfl, wide_mul b3 b2 (by decide) (by decide) (by decide), _, _, rfl, rfl, k⟩
end
end SS

namespace SS
open PySem PySem.Spec PyProof.Rows L2
theorem NF.keep {B : Nat} {H H' : Hp} {p : Key × V} (h : NF B H p) (k : ∀ r xs, H r = some (.tup xs) → H' r = some (.tup xs)) : NF B H' p := by
  obtain ⟨x, r, v, h1, h2, h3, h4⟩ := h
  exact ⟨x, r, v, h1, h2, k _ _ h3, h4⟩
theorem DM.keep {z : Prop} {m : Nat} {H H' : Hp} {a : Addr} {kvs : List (Key × V)} {f : Key → Int × Int} (h : DM z m H a kvs f) (ha : H' a = some (.dK kvs)) (k : ∀ r xs, H r = some (.tup xs) → H' r = some (.tup xs)) : DM z m H' a kvs f := by
  obtain ⟨_, h2, h3, h4, h5⟩ := h
  refine ⟨ha, h2, h3, fun p hp => ?_, h5⟩
  obtain ⟨e1, ⟨r, e2, e3⟩, e4⟩ := h4 p hp
  exact ⟨e1, ⟨r, e2, k _ _ e3⟩, e4⟩
theorem DM.st {z : Prop} {m : Nat} {H : Hp} {a st c : Addr} {kvs : List (Key × V)} {f : Key → Int × Int} (h : DM z m H a kvs f) (s : StA st c H) : a ≠ st := fun e => by
  obtain ⟨i, n, ff, xs, g1, _⟩ := s
  have h1 := h.1
  rw [e, g1] at h1
  cases h1
theorem wof_ext {α : Type _} {f g : α → Int × Int} {ks ls : List α} (hf : ∀ k, Lo (f k)) (hg : ∀ k, Lo (g k)) (nk : ks.Nodup) (nl : ls.Nodup) (ok : ∀ k, k ∉ ks → f k = (0, 1)) (ol : ∀ k, k ∉ ls → f k = (0, 1)) : wof f g ks = wof f g ls := by
  refine toQ_inj (wof_lo hf hg ks) (wof_lo hf hg ls) ?_
  rw [wof_q hf hg, wof_q hf hg]
  exact sumQ_ext nk nl (fun k n => by rw [ok k n, toQ_zero, Rat.zero_mul]) (fun k n => by rw [ol k n, toQ_zero, Rat.zero_mul])
def kd5 (h : Str → Bool) (l : List Str) : List (Key × V) := l.map fun s => (.inr s, .bl (h s))
theorem kd5_in {h : Str → Bool} {s : Str} : ∀ {l : List Str}, s ∈ l → valV (kd5 h l) (.inr s) = some (.bl (h s))
  | [], e => absurd e List.not_mem_nil
  | x :: l, e => by
    unfold valV kd5
    rw [List.map_cons]
    by_cases c : x = s
    · subst c
      rw [List.find?_cons_of_pos (by exact decide_eq_true rfl)]
      rfl
    · rw [List.find?_cons_of_neg (by
        intro z
        exact c (Sum.inr.inj (of_decide_eq_true z)))]
      exact kd5_in (l := l) ((List.mem_cons.mp e).resolve_left fun z => c z.symm)
theorem kd5_out {h : Str → Bool} {s : Str} : ∀ {l : List Str}, s ∉ l → valV (kd5 h l) (.inr s) = none
  | [], _ => rfl
  | x :: l, e => by
    unfold valV kd5
    rw [List.map_cons, List.find?_cons_of_neg (by
        intro z
        exact e (List.mem_cons.mpr (.inl (Sum.inr.inj (of_decide_eq_true z)).symm)))]
    exact kd5_out (l := l) fun z => e (List.mem_cons_of_mem _ z)
theorem sorts_out : ∀ i : Nat, i < 5 → ∀ s, sorts[i]? = some s → s ∉ sorts.take i := by decide +kernel
end SS

namespace SS
open PySem PySem.Spec PyProof.Rows L2
theorem kept_vals {W N : Int × Int} (hW : 0 < W.2) (hN : 0 < N.2) {lh mo : Bool} (e1 : decide (W.1 * N.2 < N.1 * W.2) = lh) (e2 : decide (N.1 * W.2 < W.1 * N.2) = mo) :
    ([(.inr "is", V.bl (!lh && !mo)), (.inr "most", .bl (!mo)), (.inr "least", .bl (!lh)), (.inr "below", .bl lh), (.inr "above", .bl mo)] : List (Key × V)) = kd5 (fun s => keptB s (toQ W) (toQ N)) sorts := by
  have l1 : keptB "below" (toQ W) (toQ N) = lh := by
    rw [kept_below, ← e1]
    exact decide_eq_decide.mpr (toQ_lt_iff hW hN).symm
  have l2 : keptB "above" (toQ W) (toQ N) = mo := by
    rw [kept_above, ← e2]
    exact decide_eq_decide.mpr (toQ_lt_iff hN hW).symm
  obtain ⟨ka, kb, kc⟩ := kept_all (toQ W) (toQ N)
  have l3 : keptB "least" (toQ W) (toQ N) = !lh := by rw [← l1, kb, Bool.not_not]
  have l4 : keptB "most" (toQ W) (toQ N) = !mo := by rw [← l2, kc, Bool.not_not]
  have l5 : keptB "is" (toQ W) (toQ N) = (!lh && !mo) := by rw [ka, l3, l4, Bool.and_comm]
  show _ = [((.inr "is" : Key), V.bl (keptB "is" (toQ W) (toQ N))), (.inr "most", .bl (keptB "most" (toQ W) (toQ N))), (.inr "least", .bl (keptB "least" (toQ W) (toQ N))), (.inr "below", .bl (keptB "below" (toQ W) (toQ N))), (.inr "above", .bl (keptB "above" (toQ W) (toQ N)))]
  rw [l1, l2, l3, l4, l5]
theorem sorts_nd : (sorts.map fun s => (.inr s : Key)).Nodup := by decide +kernel
theorem merge5 (b1 b2 b3 b4 b5 : Bool) : mergeK [] ([(.inr "is", V.bl b1), (.inr "most", .bl b2), (.inr "least", .bl b3), (.inr "below", .bl b4), (.inr "above", .bl b5)] : List (Key × V)) = [(.inr "is", V.bl b1), (.inr "most", .bl b2), (.inr "least", .bl b3), (.inr "below", .bl b4), (.inr "above", .bl b5)] :=
  merge_nd [(.inr "is", V.bl b1), (.inr "most", .bl b2), (.inr "least", .bl b3), (.inr "below", .bl b4), (.inr "above", .bl b5)] [] sorts_nd
section
variable {P : Program} {w : World} {K : PySem.W.Frag} {mg : Str → Option Value} {base : Heap}
theorem scLKeeps : FnScope ["_law_row", "_law_point", "_law_worth_here", "_law_less_here", "_law_more", "_law_kept"] ["_law_row", "_law_point"] (defScope sLKeeps) := ⟨rfl, rfl, rfl, by decide +kernel, rfl, by decide +kernel, by decide +kernel⟩
theorem ok_lkeeps {f' : Addr} {fd : FuncData} (F : Fun K "_law_keeps" "_law_keeps" sLKeeps f' fd) (lw : Cl P w K mg base CX0 4 "_law_worth" (spWorth K) []) (ll : Cl P w K mg base CX0 1 "_law_less" (spLess K) []) :
    FnOk P w K mg base CX0 5 f' fd ["_law_row", "_law_point"] (spKeeps K) := by
  refine F.ok scLKeeps (fun vs H Q E h => ?_) (fun cdv A' outer s H vs Q E hr h => ?_)
  · obtain ⟨_, _, _, _, _, _, _, _, _, _, _, _, _, _, _, _, rfl, _⟩ := h
    rfl
  · obtain ⟨r, a, b, n, srt, kvs, ls, f, g, num, z, z', m, m', A, B, rfl, hrow, da, db, fn, hs, okf, okg, okn, hm, nab, q⟩ := h
    have hu := hu_of hr
    refine ⟨_, pss_cons (ps_set (i := 2) scLKeeps.nd rfl (.inl rfl) (pc0 lw hr (by decide) (pa_cons (pe_ix ix_tup (pv 0) pe_int (fun _ _ => rfl)) (pa_cons (pv 1) pa_nil))))
      (pss_cons (ps_par (i := 3) (j := 4) rfl scLKeeps.nd rfl rfl (by decide) rfl rfl (pa_cons (pc0 ll hr (by decide) (pa_cons (pv 2) (pa_cons (pe_ix ix_tup (pv 0) pe_int (fun _ _ => rfl)) pa_nil))) (pa_cons (pc0 ll hr (by decide) (pa_cons (pe_ix ix_tup (pv 0) pe_int (fun _ _ => rfl)) (pa_cons (pv 2) pa_nil))) pa_nil)) rfl)
      (pss_cons (ps_set (i := 5) scLKeeps.nd rfl (.inl rfl) (pe_disp (pps_cons pe_str (pe_and (pe_not (pv 3)) (pe_one (pe_not (pv 4)))) (pps_cons pe_str (pe_not (pv 4)) (pps_cons pe_str (pe_not (pv 3)) (pps_cons pe_str (pv 3) (pps_cons pe_str (pv 4) pps_nil))))) (by rfl) (by rfl) (fun z => by cases z) (by decide)))
      (pss_one (ps_ret (pe_dget hu (pv 5) (pe_ix ix_tup (pv 0) pe_int (fun _ _ => rfl)) (fun _ _ => rfl)))))), ?_⟩
    refine ⟨_, rfl, r, _, 0, _, rfl, rfl, SqT.of hrow, atI_nat (j := 0) rfl, _, rfl, a, b, kvs, ls, f, g, z, z', m, m', A, B, rfl, da, db, okf, okg, hm, nab, fun H1 rw' s1 fw okw => ?_⟩
    have mw : Okb 3000 (wof f g (kvs.map (·.1))) := okw.mono hm
    generalize wof f g (kvs.map (·.1)) = W at fw mw okw q
    have fn1 := fn.new s1
    have hrow1 := s1 _ _ hrow
    refine ⟨_, rfl, _, rfl, r, _, 2, _, rfl, rfl, SqT.of hrow1, atI_nat (j := 2) rfl, W.1, W.2, num.1, num.2, ⟨rw', n, rfl, fw, fn1, mw.1, okn.1, mw.2.1, mw.2.2.1, okn.2.1, okn.2.2.1, mw.2.2.2, okn.2.2.2⟩, ?_⟩
    refine ⟨_, rfl, r, _, 2, _, rfl, rfl, SqT.of hrow1, atI_nat (j := 2) rfl, _, rfl, num.1, num.2, W.1, W.2, ⟨n, rw', rfl, fn1, fw, okn.1, mw.1, okn.2.1, okn.2.2.1, mw.2.1, mw.2.2.1, okn.2.2.2, mw.2.2.2⟩, ?_⟩
    have kv := kept_vals (W := W) (N := num) mw.1 okn.1 rfl rfl
    generalize decide (W.1 * num.2 < num.1 * W.2) = lh at kv ⊢
    generalize decide (num.1 * W.2 < W.1 * num.2) = mo at kv ⊢
    refine ⟨_, _, rfl, fun p np => ?_⟩
    have sp := same_new (o := .dK []) np
    have fin : ∀ H3 : Hp, H3 = upd (upd H1 p (.dK [])) p (.dK (mergeK [] ([(.inr "is", V.bl (!lh && !mo)), (.inr "most", .bl (!mo)), (.inr "least", .bl (!lh)), (.inr "below", .bl lh), (.inr "above", .bl mo)] : List (Key × V)))) → Same H H3 ∧ H3 r = some (.tup [.ref a, .str srt, .ref n]) ∧ DGet H3 p (.str srt) (some (.bl (keptB srt (toQ W) (toQ num)))) := fun H3 e => by
      subst e
      have S3 : Same H (upd (upd H1 p (.dK [])) p (.dK (mergeK [] ([(.inr "is", V.bl (!lh && !mo)), (.inr "most", .bl (!mo)), (.inr "least", .bl (!lh)), (.inr "below", .bl lh), (.inr "above", .bl mo)] : List (Key × V))))) := same_growX (s1.trans sp) (s1.free np)
      refine ⟨S3, S3 _ _ hrow, ?_⟩
      have gk := DGet.k (k := .inr srt) (upd_same (H := upd H1 p (.dK [])) (a := p) (o := .dK (mergeK [] ([(.inr "is", V.bl (!lh && !mo)), (.inr "most", .bl (!mo)), (.inr "least", .bl (!lh)), (.inr "below", .bl lh), (.inr "above", .bl mo)] : List (Key × V)))))
      rw [merge5, kv, kd5_in hs] at gk
      rw [merge5, kv]
      exact gk
    have go : ∀ b1 : Bool, b1 = (!lh && !mo) → ∀ H3 : Hp, H3 = upd (upd H1 p (.dK [])) p (.dK (mergeK [] ([(.inr "is", V.bl b1), (.inr "most", .bl (!mo)), (.inr "least", .bl (!lh)), (.inr "below", .bl lh), (.inr "above", .bl mo)] : List (Key × V)))) → Same H H3 ∧ H3 r = some (.tup [.ref a, .str srt, .ref n]) ∧ DGet H3 p (.str srt) (some (.bl (keptB srt (toQ W) (toQ num)))) := fun b1 e H3 e3 => fin H3 (by rw [e3, e])
    cases lh
    · refine ⟨_, rfl, _, rfl, _, rfl, iteT ⟨_, rfl, mo, rfl, _, rfl, _, rfl, _, rfl, _, rfl, _, rfl, _, rfl, upd_same, [(.inr "is", V.bl (!mo)), (.inr "most", .bl (!mo)), (.inr "least", .bl true), (.inr "below", .bl false), (.inr "above", .bl mo)], rfl, (by show 5 ≤ 15; decide), ?_⟩⟩
      obtain ⟨S3, hr3, g3⟩ := go (!mo) (by cases mo <;> rfl) _ rfl
      exact ⟨_, rfl, _, rfl, r, _, 1, _, rfl, rfl, SqT.of hr3, atI_nat (j := 1) rfl, p, _, rfl, g3, q _ S3⟩
    · refine ⟨_, rfl, _, rfl, _, rfl, iteF ⟨_, rfl, mo, rfl, _, rfl, _, rfl, _, rfl, _, rfl, upd_same, [(.inr "is", V.bl false), (.inr "most", .bl (!mo)), (.inr "least", .bl false), (.inr "below", .bl true), (.inr "above", .bl mo)], rfl, (by show 5 ≤ 15; decide), ?_⟩⟩
      obtain ⟨S3, hr3, g3⟩ := go false rfl _ rfl
      exact ⟨_, rfl, _, rfl, r, _, 1, _, rfl, rfl, SqT.of hr3, atI_nat (j := 1) rfl, p, _, rfl, g3, q _ S3⟩
end
end SS

namespace SS
open PySem PySem.Spec PyProof.Rows L2
section
variable {P : Program} {w : World} {K : PySem.W.Frag} {mg : Str → Option Value} {base : Heap}
/-! ### short fractions, whole points -/
def spShort (K : PySem.W.Frag) : Sp := fun vs H Q _ => ∃ (p : Addr) (N : Int × Int), vs = [.ref p] ∧ FrT K H p N.1 N.2 ∧ Okb 3000 N ∧ ∀ H' r (M : Int × Int), Same H H' → FrT K H' r M.1 M.2 → Okb 11 M → Q (.ref r) H'
theorem scShort : FnScope ["_law_number_here"] ["_law_number_here"] (defScope sShort) := ⟨rfl, rfl, rfl, by decide +kernel, rfl, by decide +kernel, by decide +kernel⟩
theorem okb_whole {i : Int} (h : i.natAbs < 2 ^ 11) : Okb 11 (i, 1) := ⟨(by show (0 : Int) < 1; decide), h, (by show (1 : Int).natAbs < 2 ^ 11; decide), Int.gcd_one_right i⟩
theorem ok_short {f' : Addr} {fd : FuncData} {k : Nat} (F : Fun K "_law_short" "_law_short" sShort f' fd) (ma : mg "abs" = none) : FnOk P w K mg base CX0 (k + 1) f' fd ["_law_number_here"] (spShort K) := by
  refine F.ok scShort (fun vs H Q E h => ?_) (fun cdv A' outer s H vs Q E hr h => ?_)
  · obtain ⟨_, _, rfl, _⟩ := h
    rfl
  · obtain ⟨p, N, rfl, fp, ok, q⟩ := h
    refine ⟨_, pss_cons (ps_if (PW.pt (pw_and (pt_cmpR op_lt (pe_callB call_abs (by rfl) ma boot_abs (pa_cons (pe_ix ix_tup (pv 0) pe_int (fun _ _ => rfl)) pa_nil)) pe_int (nomark _)) (pw_and1 (pt_cmpR op_lt (pe_ix ix_tup (pv 0) pe_int (fun _ _ => rfl)) pe_int (nomark _))))) (pss_one (ps_ret (pv 0))) pss_nil)
      (pss_one (ps_ret (pe_tup (pa_cons (pe_op op_sub (pe_op op_mod (pe_op op_fdivG (pe_ix ix_tup (pv 0) pe_int (fun _ _ => rfl)) (pe_ix ix_tup (pv 0) pe_int (fun _ _ => rfl))) pe_int) pe_int) (pa_cons pe_int pa_nil))))), ?_⟩
    have bad : ∀ {X : Prop}, X → X := fun h => h
    have tail : ∃ (v : Int), v = (N.1.fdiv N.2) % 1999 - 999 ∧ v.natAbs < 2 ^ 11 := ⟨_, rfl, by omega⟩
    obtain ⟨v, ev, bv⟩ := tail
    refine ⟨_, rfl, p, _, 0, _, rfl, rfl, fp.1, atI_nat (j := 0) rfl, _, rfl, _, 1000, rfl, rfl, _, rfl, ite2 (fun e => ?n1) (fun e => iteF ?ex1)⟩
    case' n1 => refine ⟨_, rfl, p, _, 1, _, rfl, rfl, fp.1, atI_nat (j := 1) rfl, _, 100, rfl, rfl, _, rfl, ite2 (fun e2 => ?y) (fun e2 => ?ex2)⟩
    case y =>
      have a1 : (if N.1 < 0 then -N.1 else N.1) < 1000 := of_decide_eq_true e
      have a2 : N.2 < 100 := of_decide_eq_true e2
      have a3 := ok.1
      have a4 : N.1.natAbs < 2048 := by
        split at a1 <;> omega
      refine ⟨_, rfl, q H p N (Same.refl _) fp ⟨ok.1, a4, ?_, ok.2.2.2⟩⟩
      show N.2.natAbs < 2048
      omega
    case ex1 | ex2 =>
      refine ⟨_, rfl, p, _, 0, _, rfl, rfl, fp.1, atI_nat (j := 0) rfl, _, rfl, p, _, 1, _, rfl, rfl, fp.1, atI_nat (j := 1) rfl, N.1, N.2, rfl, rfl, ⟨Int.ne_of_gt ok.1, logOf (by decide) ok.2.2.1 (by decide)⟩, _, 1999, rfl, rfl, (by show (0 : Int) < 1999; decide), _, 999, rfl, rfl, small2, fun r nr => ?_⟩
      refine q _ r (v, 1) (same_new nr) ?_ (okb_whole bv)
      rw [ev]
      exact FrT.of upd_same
def spSpoint : Sp := fun vs H Q _ => ∃ (st c u : Addr) (xs : List Str), vs = [.ref st, .ref u] ∧ StA st c H ∧ H u = some (.lst (xs.map V.str)) ∧ xs.length ≤ 9 ∧ (∀ x ∈ xs, NmOk x) ∧
  ∀ H' a kvs g, But st H H' → StA st c H' → H a = none → DM False 10 H' a kvs g → (∀ k, Okb 20 (g k)) → Q (.ref a) H'
end
end SS

namespace SS
open PySem PySem.Spec PyProof.Rows L2
section
variable {P : Program} {w : World} {K : PySem.W.Frag} {mg : Str → Option Value} {base : Heap}
theorem eqv_fr (a b : Int × Int) : PyData.eqv (.tuple [.int a.1, .int a.2]) (.tuple [.int b.1, .int b.2]) = decide (a = b) := by
  have e : PyData.eqv (.tuple [.int a.1, .int a.2]) (.tuple [.int b.1, .int b.2]) = (a.1 == b.1 && a.2 == b.2) := by
    simp [PyData.eqv, PyData.eqvAll]
  rw [e, Bool.eq_iff_iff, Bool.and_eq_true, beq_iff_eq, beq_iff_eq, decide_eq_true_iff]
  exact ⟨fun h => Prod.ext h.1 h.2, fun h => by rw [h]; exact ⟨rfl, rfl⟩⟩
theorem scKeeps : FnScope ["row", "point", "one", "sort", "bound", "worth"] ["row", "point"] (defScope sKeeps) := ⟨rfl, rfl, rfl, by decide +kernel, rfl, by decide +kernel, by decide +kernel⟩
theorem ok_keeps {f' : Addr} {fd : FuncData} (F : Fun K "keeps" "keeps" sKeeps f' fd) (wo : Cl P w K mg base CX0 4 "worth_at" (spWorth K) []) (le : Cl P w K mg base CX0 1 "is_less" (spLess K) []) :
    FnOk P w K mg base CX0 6 f' fd ["row", "point"] (spKeeps K) := by
  refine F.ok scKeeps (fun vs H Q E h => ?_) (fun cdv A' outer s H vs Q E hr h => ?_)
  · obtain ⟨_, _, _, _, _, _, _, _, _, _, _, _, _, _, _, _, rfl, _⟩ := h
    rfl
  · obtain ⟨r, a, b, n, srt, kvs, ls, f, g, num, z, z', m, m', A, B, rfl, hrow, da, db, fn, hs, okf, okg, okn, hm, nab, q⟩ := h
    refine ⟨_, pss_cons (ps_asg (pv 0) (pg_tup rfl (pgs_cons (pg_name (i := 2) scKeeps.nd rfl (.inl rfl)) (pgs_cons (pg_name (i := 3) scKeeps.nd rfl (.inl rfl)) (pgs_cons (pg_name (i := 4) scKeeps.nd rfl (.inl rfl)) pgs_nil)))))
      (pss_cons (ps_set (i := 5) scKeeps.nd rfl (.inl rfl) (pc0 wo hr (by decide) (pa_cons (pv 2) (pa_cons (pv 1) pa_nil))))
      (pss_cons (ps_if (pt_cmpR op_eq (pv 3) pe_str (nomark _)) (pss_one (ps_ret (pe_cmpR (op_eqD hr.units) (pv 5) (pv 4) (nomark _)))) pss_nil)
      (pss_cons (ps_if (pt_cmpR op_eq (pv 3) pe_str (nomark _)) (pss_one (ps_ret (pe_not (pc0 le hr (by decide) (pa_cons (pv 4) (pa_cons (pv 5) pa_nil)))))) pss_nil)
      (pss_cons (ps_if (pt_cmpR op_eq (pv 3) pe_str (nomark _)) (pss_one (ps_ret (pe_not (pc0 le hr (by decide) (pa_cons (pv 5) (pa_cons (pv 4) pa_nil)))))) pss_nil)
      (pss_cons (ps_if (pt_cmpR op_eq (pv 3) pe_str (nomark _)) (pss_one (ps_ret (pc0 le hr (by decide) (pa_cons (pv 5) (pa_cons (pv 4) pa_nil))))) pss_nil)
      (pss_one (ps_ret (pc0 le hr (by decide) (pa_cons (pv 4) (pa_cons (pv 5) pa_nil)))))))))), ?_⟩
    refine ⟨_, rfl, r, _, rfl, SqT.of hrow, rfl, _, _, rfl, _, _, rfl, _, _, rfl, rfl, ?_⟩
    refine ⟨_, rfl, _, rfl, a, b, kvs, ls, f, g, z, z', m, m', A, B, rfl, da, db, okf, okg, hm, nab, fun H1 rw' s1 fw okw => ?_⟩
    have mw : Okb 3000 (wof f g (kvs.map (·.1))) := okw.mono hm
    generalize wof f g (kvs.map (·.1)) = W at fw mw okw q
    have fn1 := fn.new s1
    have t1 : Two K H1 [.ref n, .ref rw'] num.1 num.2 W.1 W.2 := ⟨n, rw', rfl, fn1, fw, okn.1, mw.1, okn.2.1, okn.2.2.1, mw.2.1, mw.2.2.1, okn.2.2.2, mw.2.2.2⟩
    have t2 : Two K H1 [.ref rw', .ref n] W.1 W.2 num.1 num.2 := ⟨rw', n, rfl, fw, fn1, mw.1, okn.1, mw.2.1, mw.2.2.1, okn.2.1, okn.2.2.1, mw.2.2.2, okn.2.2.2⟩
    have l1 : decide (num.1 * W.2 < W.1 * num.2) = decide (toQ num < toQ W) := decide_eq_decide.mpr (toQ_lt_iff okn.1 mw.1)
    have l2 : decide (W.1 * num.2 < num.1 * W.2) = decide (toQ W < toQ num) := decide_eq_decide.mpr (toQ_lt_iff mw.1 okn.1)
    have q' := q H1 s1
    obtain ⟨ka, kb, kc⟩ := kept_all (toQ W) (toQ num)
    refine ⟨_, rfl, rfl, _, rfl, ite2 (fun e => ?_) (fun e => ?_)⟩
    · have e1 : srt = "is" := V.str.inj (of_decide_eq_true e)
      refine ⟨_, rfl, _, rfl, .tuple [.int W.1, .int W.2], .tuple [.int num.1, .int num.2], .tup fw.1 (.cons (.int _) (.cons (.int _) .nil)), .tup fn1.1 (.cons (.int _) (.cons (.int _) .nil)), rfl, rfl, ?_⟩
      rw [eqv_fr]
      rw [e1, kept_is] at q'
      rw [show decide (W = num) = decide (toQ W = toQ num) from decide_eq_decide.mpr (toQ_eq_iff mw.lo okn.lo)]
      exact q'
    have n1 : srt ≠ "is" := fun c => e (decide_eq_true (congrArg V.str c))
    refine ⟨_, rfl, rfl, _, rfl, ite2 (fun e => ?_) (fun e => ?_)⟩
    · have e1 : srt = "most" := V.str.inj (of_decide_eq_true e)
      refine ⟨_, rfl, _, rfl, num.1, num.2, W.1, W.2, t1, _, rfl, ?_⟩
      rw [e1] at q'
      rw [l1, ← kept_above (toQ W) (toQ num), kc, Bool.not_not]
      exact q'
    have n2 : srt ≠ "most" := fun c => e (decide_eq_true (congrArg V.str c))
    refine ⟨_, rfl, rfl, _, rfl, ite2 (fun e => ?_) (fun e => ?_)⟩
    · have e1 : srt = "least" := V.str.inj (of_decide_eq_true e)
      refine ⟨_, rfl, _, rfl, W.1, W.2, num.1, num.2, t2, _, rfl, ?_⟩
      rw [e1] at q'
      rw [l2, ← kept_below (toQ W) (toQ num), kb, Bool.not_not]
      exact q'
    have n3 : srt ≠ "least" := fun c => e (decide_eq_true (congrArg V.str c))
    refine ⟨_, rfl, rfl, _, rfl, ite2 (fun e => ?_) (fun e => ?_)⟩
    · have e1 : srt = "below" := V.str.inj (of_decide_eq_true e)
      refine ⟨_, rfl, _, rfl, W.1, W.2, num.1, num.2, t2, ?_⟩
      rw [e1] at q'
      rw [l2, ← kept_below (toQ W) (toQ num)]
      exact q'
    have n4 : srt ≠ "below" := fun c => e (decide_eq_true (congrArg V.str c))
    · refine ⟨_, rfl, _, rfl, num.1, num.2, W.1, W.2, t1, ?_⟩
      have e1 : srt = "above" := by
        have hs' := hs
        simp only [sorts, List.mem_cons, List.not_mem_nil, or_false] at hs'
        rcases hs' with c | c | c | c | c
        · exact absurd c n1
        · exact absurd c n2
        · exact absurd c n3
        · exact absurd c n4
        · exact c
      rw [e1] at q'
      rw [l1, ← kept_above (toQ W) (toQ num)]
      exact q'
end
end SS

namespace SS
open PySem PySem.Spec PyProof.Rows L2
/-! ### tables of generator expressions: all else stays -/
def Tabs (T : List Addr) (H : Hp) : Prop := ∀ P ∈ T, GxR.TabG H P
structure SameT (T : List Addr) (H H' : Hp) : Prop where
  ext : ∀ b o, H b = some o → (∀ ps, o ≠ .tbl ps) → H' b = some o
  tab : Tabs T H'
  free : ∀ {b}, H' b = none → H b = none
section
variable {T : List Addr} {H H1 H2 H' : Hp} {P : Addr}
theorem SameT.refl (h : Tabs T H) : SameT T H H := ⟨fun _ _ e _ => e, h, fun e => e⟩
theorem SameT.trans (a : SameT T H H1) (b : SameT T H1 H2) : SameT T H H2 := ⟨fun x o e n => b.ext x o (a.ext x o e n) n, b.tab, fun e => a.free (b.free e)⟩
theorem Tabs.same (h : Tabs T H) (s : Same H H') : Tabs T H' := fun P hP => by
  obtain ⟨ps, e, r⟩ := h P hP
  exact ⟨ps, s _ _ e, r⟩
theorem Tabs.but {st c : Addr} (h : Tabs T H) (s : But st H H') (y : StA st c H) : Tabs T H' := fun P hP => by
  obtain ⟨ps, e, r⟩ := h P hP
  refine ⟨ps, s _ _ (fun z => ?_) e, r⟩
  obtain ⟨i, n, f, xs, h1, _⟩ := y
  rw [z, h1] at e
  cases e
/-- an object that is no table changes -/
theorem Tabs.upd {a : Addr} {o u : HO} (h : Tabs T H) (ha : H a = some u) (nu : ∀ ps, u ≠ .tbl ps) : Tabs T (upd H a o) := fun P hP => by
  obtain ⟨ps, e, r⟩ := h P hP
  refine ⟨ps, ?_, r⟩
  rw [upd_ne fun z => ?_]
  · exact e
  · rw [z, ha] at e
    exact nu ps (Option.some.inj e)
theorem SameT.of (h : Tabs T H) (s : Same H H') : SameT T H H' := ⟨fun b o e _ => s b o e, h.same s, fun e => s.free e⟩
theorem SameT.tabbed (h : Tabs T H) (hP : GxR.TabG H P) (t : GxR.Tabbed P H H') : SameT T H H' := by
  refine ⟨fun b o e n => ?_, fun R hR => ?_, fun {b} e => ?_⟩
  · by_cases c : b = P
    · obtain ⟨ps, e', _⟩ := hP
      rw [c, e'] at e
      exact absurd (Option.some.inj e).symm (n ps)
    · rw [t.2 b c]
      exact e
  · by_cases c : R = P
    · rw [c]
      exact t.1
    · obtain ⟨ps, e, r⟩ := h R hR
      exact ⟨ps, by rw [t.2 R c]; exact e, r⟩
  · by_cases c : b = P
    · obtain ⟨⟨ps, e', _⟩, _⟩ := t
      rw [c, e'] at e
      cases e
    · rw [t.2 b c] at e
      exact e
/-- a dict is locked, and unlocked behind it -/
theorem SameT.unlock {a : Addr} {od : Obj} {kvs : List (Key × V)} (ha : H a = some (.dK kvs)) (s : SameT T (upd H a (.frz od (.dK kvs))) H') (ha' : H' a = some (.frz od (.dK kvs))) : SameT T H (upd H' a (.dK kvs)) := by
  refine ⟨fun b o e n => ?_, s.tab.upd ha' (fun ps z => by cases z), fun {b} e => ?_⟩
  · by_cases c : b = a
    · rw [c] at e ⊢
      rw [upd_same, ← ha]
      exact e
    · rw [upd_ne c]
      exact s.ext b o (by rw [upd_ne c]; exact e) n
  · by_cases c : b = a
    · rw [c, upd_same] at e
      cases e
    · rw [upd_ne c] at e
      have z := s.free e
      rw [upd_ne c] at z
      exact z
/-- tuples and lists stay -/
def KTL (H H' : Hp) : Prop := ∀ b xs, (H b = some (.tup xs) → H' b = some (.tup xs)) ∧ (H b = some (.lst xs) → H' b = some (.lst xs)) ∧ ∀ ob, H b = some (.frz ob (.tup xs)) → H' b = some (.frz ob (.tup xs))
theorem SameT.ktl (s : SameT T H H') : KTL H H' := fun b xs => ⟨fun e => s.ext _ _ e (fun ps z => by cases z), fun e => s.ext _ _ e (fun ps z => by cases z), fun ob e => s.ext _ _ e (fun ps z => by cases z)⟩
theorem KTL.trans (a : KTL H H1) (b : KTL H1 H2) : KTL H H2 := fun x xs => ⟨fun e => (b x xs).1 ((a x xs).1 e), fun e => (b x xs).2.1 ((a x xs).2.1 e), fun ob e => (b x xs).2.2 ob ((a x xs).2.2 ob e)⟩
theorem KTL.dict {a : Addr} {kvs : List (Key × V)} {o : HO} (ha : H a = some (.dK kvs)) : KTL H (upd H a o) := fun b xs => by
  have ne : ∀ u, H b = some u → (∀ ks, u ≠ .dK ks) → b ≠ a := fun u e n z => by
    rw [z, ha] at e
    exact n kvs (Option.some.inj e).symm
  refine ⟨fun e => ?_, fun e => ?_, fun ob e => ?_⟩ <;> rw [upd_ne (ne _ e fun ks z => by cases z)] <;> exact e
theorem SqT.ktl {K : PySem.W.Frag} {p : Addr} {xs : List V} (h : SqT K H p xs) (k : KTL H H') : SqT K H' p xs := by
  rcases h with (h | ⟨o, h⟩) | h
  · exact .inl (.inl ((k _ _).1 h))
  · exact .inl (.inr ⟨o, (k _ _).2.2 _ h⟩)
  · exact .inr h
theorem FrT.ktl {K : PySem.W.Frag} {p : Addr} {n d : Int} (h : FrT K H p n d) (s : KTL H H') : FrT K H' p n d := by
  obtain ⟨h1, h2⟩ := h
  rcases h1 with (h1 | ⟨o, h1⟩) | ⟨o, its, m, k1, k2, k3⟩
  · exact FrT.of ((s _ _).1 h1)
  · exact ⟨.inl (.inr ⟨o, (s _ _).2.2 _ h1⟩), .fTuple ((s _ _).2.2 _ h1)⟩
  · exact ⟨.inr ⟨o, its, m, k1, k2, k3⟩, .kTuple k1 k2⟩
theorem SqT.ty {K : PySem.W.Frag} {p : Addr} {xs : List V} (h : SqT K H p xs) : TyX K H (.ref p) (.type "tuple") := by
  rcases h with (h | ⟨o, h⟩) | ⟨o, its, n, k1, k2, k3⟩
  · exact .base (.tup h)
  · exact .fTuple h
  · exact .kTuple k1 k2
theorem DM.sameT {z : Prop} {m : Nat} {a : Addr} {kvs : List (Key × V)} {f : Key → Int × Int} (h : DM z m H a kvs f) (s : SameT T H H') : DM z m H' a kvs f := by
  obtain ⟨h1, h2, h3, h4, h5⟩ := h
  refine ⟨s.ext _ _ h1 (fun ps z => by cases z), h2, h3, fun p hp => ?_, h5⟩
  obtain ⟨e1, ⟨r, e2, e3⟩, e4⟩ := h4 p hp
  exact ⟨e1, ⟨r, e2, s.ext _ _ e3 (fun ps z => by cases z)⟩, e4⟩
end
/-! ### whole numbers, fractions, names of anything -/
/-- things that are no numbers: what they are -/
inductive Odd (K : PySem.W.Frag) (H : Hp) : V → String → Prop where
  | non : Odd K H .non "NoneType"
  | str (x : Str) : Odd K H (.str x) "str"
  | lst {p : Addr} {xs : List V} (h : H p = some (.lst xs)) : Odd K H (.ref p) "list"
  | tup {p : Addr} {xs : List V} (h : SqT K H p xs) : Odd K H (.ref p) "tuple"
  | dct {p : Addr} {ks : List (Key × V)} (h : H p = some (.dK ks)) : Odd K H (.ref p) "dict"
theorem Odd.ty {K : PySem.W.Frag} {H : Hp} {v : V} {t : String} (h : Odd K H v t) : TyX K H v (.type t) := by
  cases h with
  | non => exact .base .non
  | str x => exact .base (.str x)
  | lst h => exact .base (.lst h)
  | tup h => exact SqT.ty h
  | dct h => exact .base (.dK h)
def WhB (K : PySem.W.Frag) (H : Hp) (v : V) (b : Bool) : Prop := (∃ i, v = .int i ∧ b = true) ∨ (∃ t, v = .bl t ∧ b = false) ∨ ∃ t, Odd K H v t ∧ b = false
theorem odd_kit {K : PySem.W.Frag} {H : Hp} {v : V} {t : String} (h : Odd K H v t) : PySem.W.kitOne K (.type t) (.type "int") = some false := by
  cases h <;> exact kit_ty (by decide +kernel)
/-- is a fraction, by b; no dict is asked for its inside -/
def FracB (K : PySem.W.Frag) (H : Hp) (v : V) (b : Bool) : Prop :=
  (((∃ i, v = .int i) ∨ (∃ t, v = .bl t) ∨ v = .non ∨ (∃ x, v = .str x) ∨ ∃ p xs, v = .ref p ∧ H p = some (.lst xs)) ∧ b = false) ∨
  ∃ p xs, v = .ref p ∧ SqT K H p xs ∧ ((xs.length ≠ 2 ∧ b = false) ∨ ∃ x y, xs = [x, y] ∧ ((∃ n d, x = .int n ∧ y = .int d ∧ b = decide (1 ≤ d ∧ Int.gcd n d = 1)) ∨ (((∃ t, x = .bl t) ∨ ∃ n t, x = .int n ∧ y = .bl t) ∧ b = false)))
theorem FracB.ktl {K : PySem.W.Frag} {H H' : Hp} {v : V} {b : Bool} (h : FracB K H v b) (k : KTL H H') : FracB K H' v b := by
  rcases h with ⟨h, e⟩ | ⟨p, xs, e, h, r⟩
  · refine .inl ⟨?_, e⟩
    rcases h with h | h | h | h | ⟨p, xs, e1, e2⟩
    · exact .inl h
    · exact .inr (.inl h)
    · exact .inr (.inr (.inl h))
    · exact .inr (.inr (.inr (.inl h)))
    · exact .inr (.inr (.inr (.inr ⟨p, xs, e1, (k _ _).2.1 e2⟩)))
  · exact .inr ⟨p, xs, e, SqT.ktl h k, r⟩
theorem FracB.fr {K : PySem.W.Frag} {H : Hp} {p : Addr} {n d : Int} (h : FrT K H p n d) (hd : 0 < d) (hg : Int.gcd n d = 1) : FracB K H (.ref p) true :=
  .inr ⟨p, _, rfl, h.1, .inr ⟨_, _, rfl, .inl ⟨n, d, rfl, rfl, (decide_eq_true ⟨by omega, hg⟩).symm⟩⟩⟩
theorem abc_in : ∀ i : Nat, i ∈ abc.cps.toList → 97 ≤ i ∧ i ≤ 122 := by
  have h : ∀ i ∈ abc.cps.toList, 97 ≤ i ∧ i ≤ 122 := by decide +kernel
  exact h
section
variable {P : Program} {w : World} {K : PySem.W.Frag} {mg : Str → Option Value} {base : Heap}
/-- a def whose code object is known -/
theorem Fun.okC {x qual : Str} {st : Stmt} {f c : Addr} {fd : FuncData} {N ps : List Str} {k : Nat} {sp : Sp} (F : Fun K x qual st f fd) (hcode : fd.code = .ref c) (S : FnScope N ps (defScope st)) (len : ∀ vs H Q E, sp vs H Q E → vs.length = ps.length)
    (hbody : ∀ (cdv : Value) (A : Around) (outer : List Env) (s : Shared) (H : Hp) (vs : List V) (Q : VK) (E : XK), cdv = .ref c → Room k (A.deeper (envOfC qual (defScope st) s.heap.objs.size f cdv)) → sp vs H Q E →
      ∃ t, PSs (cxOf CX0 P w K mg base N qual (defScope st) f cdv A outer s H E).nox (defBody st) t ∧ t { nx := fun _ H' => Q .non H', rt := Q } (start N vs) H) : FnOk P w K mg base CX0 (k + 1) f fd ps sp := by
  obtain ⟨oc, od, kV, doc, pm, an, cdv, ct, osl, rfl, lk, hcd⟩ := F.ex
  have hc : cdv = .ref c := hcode
  refine fn_of lk hcd S len fun A outer s H vs Q E hr hsp => ?_
  obtain ⟨t, h, q⟩ := hbody cdv A outer s H vs Q E hc hr hsp
  exact ⟨t, h.nox, q⟩
/-- all(..) over a walk -/
theorem all_it {J : It} {n : Nat} {G : Hp → Prop} {Y : Nat → Hp → V → Hp → Prop} (w : L2.Walk J n G Y) {te : TE} {σ : L2.St} {ix : Nat} {Q : VK} {H1 : Hp} (Pv : Nat → Hp → Prop) (h0 : Pv 0 H1) (hG : ∀ i H, i ≤ n → Pv i H → G H)
    (hs : ∀ i x H H', i < n → Pv i H → Y i H x H' → te (σ.set ix (some x)) H' fun v H3 => ∃ b, v = .bl b ∧ (b = true → Pv (i + 1) H3) ∧ (b = false → Q (.bl false) H3)) (hd : ∀ H, Pv n H → Q (.bl true) H) :
    ∃ W : Nat → Nat → Hp → Prop, (∃ m, W 0 m H1) ∧ GxA.AllW J te σ ix Q W := by
  refine ⟨fun i m H => m = n - i ∧ i ≤ n ∧ Pv i H, ⟨n, by simp, Nat.zero_le _, h0⟩, ?_⟩
  rintro i m H ⟨rfl, hi, p⟩
  have q := hG i H hi p
  by_cases hlt : i < n
  · exact .inr ⟨w.goes i H hlt q, Pv (i + 1), fun H' p' => ⟨n - (i + 1), by omega, rfl, hlt, p'⟩, fun x H' y => hs i x H H' hlt p (w.yields i H x H' hlt q y)⟩
  · have e : i = n := by omega
    subst e
    exact .inl ⟨w.stops H q, hd H p⟩
def spFWhole (K : PySem.W.Frag) : Sp := fun vs H Q _ => ∃ v b, vs = [v] ∧ WhB K H v b ∧ Q (.bl b) H
def spFFrac (K : PySem.W.Frag) : Sp := fun vs H Q _ => ∃ v b, vs = [v] ∧ FracB K H v b ∧ Q (.bl b) H
/-- is a name, by b -/
def NmB (K : PySem.W.Frag) (H : Hp) (v : V) (b : Bool) : Prop := (∃ x : Str, v = .str x ∧ x.length ≤ 1000 ∧ b = decide (NmOk x)) ∨ (((∃ i, v = .int i) ∨ v = .non ∨ ∃ p xs, v = .ref p ∧ SqT K H p xs) ∧ b = false)
def spFUnk (K : PySem.W.Frag) (T : List Addr) : Sp := fun vs H Q _ => ∃ v b, vs = [v] ∧ NmB K H v b ∧ Tabs T H ∧ ∀ H', SameT T H H' → Q (.bl b) H'
end
end SS

namespace SS
open PySem PySem.Spec PyProof.Rows L2
/-- an entry of a sum, by b -/
def EntB (K : PySem.W.Frag) (H : Hp) (p : Key × V) (b : Bool) : Prop :=
  (∃ x : Str, p.1 = .inr x ∧ x.length ≤ 1000 ∧ ¬ NmOk x ∧ b = false) ∨ (∃ i, p.1 = .inl i ∧ b = false) ∨
  ∃ x, p.1 = .inr x ∧ NmOk x ∧ ((FracB K H p.2 false ∧ b = false) ∨ ∃ r n d, p.2 = .ref r ∧ FrT K H r n d ∧ 0 < d ∧ Int.gcd n d = 1 ∧ b = decide (n ≠ 0))
theorem EntB.ktl {K : PySem.W.Frag} {H H' : Hp} {p : Key × V} {b : Bool} (h : EntB K H p b) (k : KTL H H') : EntB K H' p b := by
  rcases h with h | h | ⟨x, e, hx, h⟩
  · exact .inl h
  · exact .inr (.inl h)
  · refine .inr (.inr ⟨x, e, hx, ?_⟩)
    rcases h with ⟨h, e⟩ | ⟨r, n, d, e1, e2, e3⟩
    · exact .inl ⟨h.ktl k, e⟩
    · exact .inr ⟨r, n, d, e1, e2.ktl k, e3⟩
/-- is a sum, by b -/
def SumB (K : PySem.W.Frag) (H : Hp) (v : V) (b : Bool) : Prop :=
  ((v = .non ∨ (∃ i, v = .int i) ∨ (∃ x, v = .str x) ∨ (∃ p xs, v = .ref p ∧ H p = some (.lst xs)) ∨ ∃ p xs, v = .ref p ∧ SqT K H p xs) ∧ b = false) ∨
  ∃ a kvs bs, v = .ref a ∧ H a = some (.dK kvs) ∧ (kvs.map (·.1)).Nodup ∧ kvs.length ≤ 900 ∧ Paired (EntB K H) kvs bs ∧ b = bs.all id
theorem paired_get {α β : Type} {F : α → β → Prop} {l : List α} {m : List β} (h : Paired F l m) : l.length = m.length ∧ ∀ (i : Nat) (x : α), l[i]? = some x → ∃ y, m[i]? = some y ∧ F x y := by
  induction h with
  | nil => exact ⟨rfl, fun i x e => by simp at e⟩
  | cons hd tl ih =>
    refine ⟨by rw [List.length_cons, List.length_cons, ih.1], fun i x e => ?_⟩
    match i, e with
    | 0, e =>
      have z := Option.some.inj e
      subst z
      exact ⟨_, rfl, hd⟩
    | i + 1, e => exact ih.2 i x e
theorem nmlen {x : Str} (h : NmOk x) : x.length ≤ 1000 := by
  have e : x.length = x.cps.toList.length := by
    rw [Array.length_toList]
    rfl
  have := h.2.1
  omega
/-- an entry of a point, by b -/
def EntPt (K : PySem.W.Frag) (H : Hp) (p : Key × V) (b : Bool) : Prop :=
  (∃ x : Str, p.1 = .inr x ∧ x.length ≤ 1000 ∧ ¬ NmOk x ∧ b = false) ∨ (∃ i, p.1 = .inl i ∧ b = false) ∨ ∃ x, p.1 = .inr x ∧ NmOk x ∧ FracB K H p.2 b
theorem EntPt.ktl {K : PySem.W.Frag} {H H' : Hp} {p : Key × V} {b : Bool} (h : EntPt K H p b) (k : KTL H H') : EntPt K H' p b := by
  rcases h with h | h | ⟨x, e, hx, h⟩
  · exact .inl h
  · exact .inr (.inl h)
  · exact .inr (.inr ⟨x, e, hx, h.ktl k⟩)
/-- what is no dict -/
def NoDict (K : PySem.W.Frag) (H : Hp) (v : V) : Prop := v = .non ∨ (∃ i, v = .int i) ∨ (∃ x, v = .str x) ∨ (∃ p xs, v = .ref p ∧ H p = some (.lst xs)) ∨ (∃ p xs, v = .ref p ∧ SqT K H p xs) ∨ ∃ t, v = .bl t
theorem NoDict.kit {K : PySem.W.Frag} {H : Hp} {v : V} (h : NoDict K H v) : ∃ t, TyX K H v (.type t) ∧ PySem.W.kitOne K (.type t) (.type "dict") = some false := by
  rcases h with rfl | ⟨i, rfl⟩ | ⟨x, rfl⟩ | ⟨p, xs, rfl, e⟩ | ⟨p, xs, rfl, e⟩ | ⟨t, rfl⟩
  · exact ⟨_, .base .non, kit_ty (by decide +kernel)⟩
  · exact ⟨_, .base (.int i), kit_ty (by decide +kernel)⟩
  · exact ⟨_, .base (.str x), kit_ty (by decide +kernel)⟩
  · exact ⟨_, .base (.lst e), kit_ty (by decide +kernel)⟩
  · exact ⟨_, SqT.ty e, kit_ty (by decide +kernel)⟩
  · exact ⟨_, .base (.bl t), kit_ty (by decide +kernel)⟩
/-- is a point, by b -/
def PntB (K : PySem.W.Frag) (H : Hp) (v : V) (b : Bool) : Prop := (NoDict K H v ∧ b = false) ∨
  ∃ a kvs bs, v = .ref a ∧ H a = some (.dK kvs) ∧ (kvs.map (·.1)).Nodup ∧ kvs.length ≤ 900 ∧ Paired (EntPt K H) kvs bs ∧ b = bs.all id
/-- entries of a sum are entries of a point, or none -/
theorem ents_pt {K : PySem.W.Frag} {H : Hp} {kvs : List (Key × V)} {bs : List Bool} (h : Paired (EntB K H) kvs bs) : ∃ cs, Paired (EntPt K H) kvs cs ∧ (cs.all id = false → bs.all id = false) ∧
    (cs.all id = true → ∀ (i : Nat) (p : Key × V), kvs[i]? = some p → ∃ r n d, p.2 = .ref r ∧ FrT K H r n d ∧ 0 < d ∧ Int.gcd n d = 1 ∧ bs[i]? = some (decide (n ≠ 0))) := by
  induction h with
  | nil => exact ⟨[], .nil, fun z => by simp at z, fun _ i p e => by simp at e⟩
  | cons hd tl ih =>
    obtain ⟨cs, h1, h2, h3⟩ := ih
    have bad : ∀ {b : Bool}, b = false → ∀ bs : List Bool, (b :: bs).all id = false := fun e bs => by rw [e]; rfl
    have ff : ∀ {ccs : List Bool}, ¬ ((false :: ccs).all id = true) := fun z => by simp at z
    rcases hd with ⟨x, e, hx, nx, rfl⟩ | ⟨j, e, rfl⟩ | ⟨x, e, hx, ⟨fb, rfl⟩ | ⟨r, n, d, e2, fr, hd, hg, rfl⟩⟩
    · exact ⟨false :: cs, .cons (.inl ⟨x, e, hx, nx, rfl⟩) h1, fun _ => rfl, fun z => absurd z ff⟩
    · exact ⟨false :: cs, .cons (.inr (.inl ⟨j, e, rfl⟩)) h1, fun _ => rfl, fun z => absurd z ff⟩
    · exact ⟨false :: cs, .cons (.inr (.inr ⟨x, e, hx, fb⟩)) h1, fun _ => rfl, fun z => absurd z ff⟩
    · refine ⟨true :: cs, .cons (.inr (.inr ⟨x, e, hx, by rw [e2]; exact FracB.fr fr hd hg⟩)) h1, fun z => ?_, fun z i p hp => ?_⟩
      · rw [List.all_cons, h2 (by rw [List.all_cons] at z; exact z), Bool.and_false]
      · match i, hp with
        | 0, hp =>
          have e3 := Option.some.inj hp
          subst e3
          exact ⟨r, n, d, e2, fr, hd, hg, rfl⟩
        | i + 1, hp => exact h3 (by rw [List.all_cons] at z; exact z) i p hp
theorem ne_nought {n d : Int} (hgc : Int.gcd n d = 1) (hd : 0 < d) : (!(n == 0 && d == 1)) = decide (n ≠ 0) := by
  by_cases c0 : n = 0
  · have d1 : d = 1 := by
      rw [c0] at hgc
      have q1 : Int.gcd 0 d = d.natAbs := Int.gcd_zero_left ..
      omega
    rw [c0, d1]
    rfl
  · rw [decide_eq_true c0, beq_eq_false_iff_ne.mpr c0]
    rfl
section
variable {P : Program} {w : World} {K : PySem.W.Frag} {mg : Str → Option Value} {base : Heap}
def spFPt (K : PySem.W.Frag) (T : List Addr) : Sp := fun vs H Q _ => ∃ v b, vs = [v] ∧ PntB K H v b ∧ Tabs T H ∧ ∀ H', SameT T H H' → Q (.bl b) H'
def spFSum (K : PySem.W.Frag) (T : List Addr) : Sp := fun vs H Q _ => ∃ v b, vs = [v] ∧ SumB K H v b ∧ Tabs T H ∧ ∀ H', SameT T H H' → Q (.bl b) H'
/-- a sort, by b: a text or another plain thing -/
def SortB (v : V) (b : Bool) : Prop := flatV v = true ∧ b = inV v (sorts.map V.str)
/-- row_of of anything: C is NoRow -/
def spRow (K : PySem.W.Frag) (T : List Addr) (C : Addr) : Sp := fun vs H Q E => ∃ v1 v2 v3 b1 b2 b3, vs = [v1, v2, v3] ∧ Tabs T H ∧ SumB K H v1 b1 ∧ SortB v2 b2 ∧ FracB K H v3 b3 ∧
  ((b1 && b2 && b3) = false → ∀ H', SameT T H H' → E (.ref C) none H') ∧
  ((b1 && b2 && b3) = true → ∃ a kvs, v1 = .ref a ∧ H a = some (.dK kvs) ∧ ∀ H1, SameT T H H1 → ∀ c, H1 c = none → ∀ r, (upd H1 c (.dK kvs)) r = none → Q (.ref r) (upd (upd H1 c (.dK kvs)) r (.tup [.ref c, v2, v3])))
/-- is a row: a tuple of three by b -/
def spFRow (K : PySem.W.Frag) (T : List Addr) : Sp := fun vs H Q _ => ∃ u v1 v2 v3 b1 b2 b3, vs = [.ref u] ∧ H u = some (.tup [v1, v2, v3]) ∧ Tabs T H ∧ SumB K H v1 b1 ∧ SortB v2 b2 ∧ FracB K H v3 b3 ∧ ∀ H', SameT T H H' → Q (.bl (b1 && b2 && b3)) H'
theorem SumB.ktl {K : PySem.W.Frag} {H H' : Hp} {v : V} {b : Bool} (h : SumB K H v b) (k : KTL H H') (s : ∀ x o, H x = some o → H' x = some o) : SumB K H' v b := by
  rcases h with ⟨h, e⟩ | ⟨a, kvs, bs, e, ha, nd, kl, hp, e2⟩
  · refine .inl ⟨?_, e⟩
    rcases h with h | h | h | ⟨p, xs, e, h⟩ | ⟨p, xs, e, h⟩
    · exact .inl h
    · exact .inr (.inl h)
    · exact .inr (.inr (.inl h))
    · exact .inr (.inr (.inr (.inl ⟨p, xs, e, s _ _ h⟩)))
    · exact .inr (.inr (.inr (.inr ⟨p, xs, e, SqT.ktl h k⟩)))
  · refine .inr ⟨a, kvs, bs, e, s _ _ ha, nd, kl, ?_, e2⟩
    clear e2 ha nd kl e
    induction hp with
    | nil => exact .nil
    | cons hd tl ih => exact .cons (hd.ktl k) ih
end
end SS

namespace SS
open PySem PySem.Spec PyProof.Rows L2
section
variable {T : List Addr} {H H1 H' : Hp}
theorem Tabs.but2 {st c D : Addr} (h : Tabs T H) (y : StA st c H) (nD : H D = none) (w3 : ∀ x o, x ≠ st → x ≠ D → H x = some o → H' x = some o) : Tabs T H' := fun P hP => by
  obtain ⟨ps, e, r⟩ := h P hP
  refine ⟨ps, w3 _ _ (fun z => ?_) (ne_of_none e nD) e, r⟩
  obtain ⟨i, n, f, xs, h1, _⟩ := y
  rw [z, h1] at e
  cases e
theorem SameT.growX {p : Addr} {o u : HO} (s : SameT T H H1) (n : H p = none) (h : H1 p = some u) (nu : ∀ ps, u ≠ .tbl ps) : SameT T H (upd H1 p o) := by
  refine ⟨fun b x e nx => ?_, s.tab.upd h nu, fun {b} e => ?_⟩
  · rw [upd_ne (ne_of_none e n)]
    exact s.ext b x e nx
  · by_cases c : b = p
    · rw [c]
      exact n
    · rw [upd_ne c] at e
      exact s.free e
theorem paired_true {α : Type} {F : α → Bool → Prop} : ∀ {l : List α}, (∀ x ∈ l, F x true) → Paired F l (l.map fun _ => true)
  | [], _ => .nil
  | x :: l, h => .cons (h x (.head _)) (paired_true fun y hy => h y (.tail _ hy))
theorem DM.sumB {K : PySem.W.Frag} {m B : Nat} {a : Addr} {kvs : List (Key × V)} {f : Key → Int × Int} (h : DM True m H a kvs f) (ok : ∀ k, Okb B (f k)) (hm : m ≤ 900) : SumB K H (.ref a) true := by
  refine .inr ⟨a, kvs, kvs.map fun _ => true, rfl, h.1, h.2.1, Nat.le_trans h.2.2.1 hm, paired_true fun p hp => ?_, (List.all_eq_true.mpr fun x hx => ?_).symm⟩
  · obtain ⟨⟨x, e1, hx⟩, ⟨r, e2, e3⟩, nz⟩ := h.2.2.2.1 p hp
    exact .inr (.inr ⟨x, e1, hx, .inr ⟨r, _, _, e2, FrT.of e3, (ok _).1, (ok _).2.2.2, (decide_eq_true (nz trivial)).symm⟩⟩)
  · obtain ⟨_, _, e⟩ := List.mem_map.mp hx
    rw [← e]
    rfl
end
theorem sort_in : ∀ s ∈ sorts, inV (.str s) (sorts.map V.str) = true := by decide +kernel
end SS

namespace SS
open PySem PySem.Spec PyProof.Rows L2
/-! ### rows: a tuple of a sum, a sort and a bound -/
def RowT (K : PySem.W.Frag) (m : Nat) (H : Hp) (r a : Addr) (kvs : List (Key × V)) (f : Key → Int × Int) (srt : Str) (num : Int × Int) : Prop :=
  ∃ n, H r = some (.tup [.ref a, .str srt, .ref n]) ∧ DM True m H a kvs f ∧ FrT K H n num.1 num.2 ∧ srt ∈ sorts
section
variable {K : PySem.W.Frag} {m m' : Nat} {H H' : Hp} {r r' a a' : Addr} {kvs ls : List (Key × V)} {f : Key → Int × Int} {srt : Str} {num : Int × Int} {T : List Addr}
theorem RowT.same (h : RowT K m H r a kvs f srt num) (s : Same H H') : RowT K m H' r a kvs f srt num := by
  obtain ⟨n, h1, h2, h3, h4⟩ := h
  exact ⟨n, s _ _ h1, h2.same s, h3.new s, h4⟩
theorem RowT.sameT (h : RowT K m H r a kvs f srt num) (s : SameT T H H') : RowT K m H' r a kvs f srt num := by
  obtain ⟨n, h1, h2, h3, h4⟩ := h
  exact ⟨n, s.ext _ _ h1 (fun ps z => by cases z), h2.sameT s, h3.ktl s.ktl, h4⟩
theorem KTL.but {st c : Addr} (b : But st H H') (y : StA st c H) (xs0 : ∀ b' xs, H b' = some (.lst xs) → b' ≠ st → H' b' = some (.lst xs)) : True := trivial
theorem FrT.but {st c p : Addr} {n d : Int} (h : FrT K H p n d) (b : But st H H') (y : StA st c H) : FrT K H' p n d := by
  obtain ⟨h1, h2⟩ := h
  have ne : ∀ o, H p = some o → (∀ xs, o ≠ .lst xs) → p ≠ st := fun o e no z => by
    obtain ⟨i, n, ff, xs, g1, _⟩ := y
    rw [z, g1] at e
    exact no _ (Option.some.inj e).symm
  rcases h1 with (h1 | ⟨o, h1⟩) | ⟨o, its, mm, k1, k2, k3⟩
  · exact FrT.of (b.tup y h1)
  · have e := b _ _ (ne _ h1 fun xs z => by cases z) h1
    exact ⟨.inl (.inr ⟨o, e⟩), .fTuple e⟩
  · exact ⟨.inr ⟨o, its, mm, k1, k2, k3⟩, .kTuple k1 k2⟩
theorem RowT.but {st c : Addr} (h : RowT K m H r a kvs f srt num) (b : But st H H') (y : StA st c H) : RowT K m H' r a kvs f srt num := by
  obtain ⟨n, h1, h2, h3, h4⟩ := h
  exact ⟨n, b.tup y h1, h2.but b y, h3.but b y, h4⟩
theorem RowT.mono (h : RowT K m H r a kvs f srt num) (l : m ≤ m') : RowT K m' H r a kvs f srt num := by
  obtain ⟨n, h1, h2, h3⟩ := h
  exact ⟨n, h1, h2.mono l, h3⟩
/-- another dict changes -/
theorem RowT.upd {b : Addr} {ks : List (Key × V)} {o : HO} (h : RowT K m H r a kvs f srt num) (hb : H b = some (.dK ks)) (n : a ≠ b) : RowT K m (upd H b o) r a kvs f srt num := by
  obtain ⟨n', h1, h2, h3, h4⟩ := h
  exact ⟨n', keep_d hb _ _ h1, h2.upd hb n, h3.ktl (KTL.dict hb), h4⟩
/-! ### equal things -/
theorem xv_int (k : Nat) (i : Int) : XV K H (k + 1) (.int i) (.int i) := .inl ⟨rfl, rfl⟩
theorem xv_str (k : Nat) (x : Str) : XV K H (k + 1) (.str x) (.str x) := .inl ⟨rfl, rfl⟩
theorem xv_fr {p q : Addr} {n d : Int} (k : Nat) (h : FrT K H p n d) (h' : FrT K H q n d) : XV K H (k + 2) (.ref p) (.ref q) :=
  .inr (.inr (.inr ⟨p, q, _, _, rfl, rfl, h.1, h'.1, .cons (xv_int k _) (.cons (xv_int k _) .nil)⟩))
theorem xv_dm (k : Nat) (h : DM True m H a kvs f) (h' : DM True m' H a' ls f) : XV K H (k + 3) (.ref a) (.ref a') := by
  obtain ⟨x, y, kx, ky, e1, e2, hx, hy, hl, hp⟩ := deq_of h h'
  cases e1
  cases e2
  refine .inr (.inr (.inl (.inr ⟨a, a', kx, ky, rfl, rfl, hx, hy, hl, fun p hpm => ?_⟩)))
  obtain ⟨u, eu, p1, p2, n, d, e3, e4, g1, g2⟩ := hp p hpm
  refine ⟨u, eu, ?_⟩
  rw [e3, e4]
  exact xv_fr k (FrT.of g1) (FrT.of g2)
theorem xr_row (k : Nat) (h : RowT K m H r a kvs f srt num) (h' : RowT K m' H r' a' ls f srt num) : XR K H (XV K H (k + 3)) (.ref r) (.ref r') := by
  obtain ⟨n, h1, h2, h3, _⟩ := h
  obtain ⟨n', g1, g2, g3, _⟩ := h'
  exact .inr ⟨r, r', _, _, rfl, rfl, SqT.of h1, SqT.of g1, .cons (xv_dm k h2 g2) (.cons (xv_str _ _) (.cons (xv_fr (k + 1) h3 g3) .nil))⟩
theorem ne_row (k : Nat) (hk : k ≤ 40) {Q : VK} (h : RowT K m H r a kvs f srt num) (h' : RowT K m' H r' a' ls f srt num) (q : Q (.bl false) H) : rNeXT K (.ref r) (.ref r') H Q := by
  obtain ⟨n, h1, h2, h3, _⟩ := h
  obtain ⟨n', g1, g2, g3, _⟩ := h'
  exact ⟨k + 3, r, r', _, _, by omega, rfl, rfl, SqT.of h1, SqT.of g1, .cons (xv_dm k h2 g2) (.cons (xv_str _ _) (.cons (xv_fr (k + 1) h3 g3) .nil)), q⟩
end
theorem sorts_flat : (sorts.map V.str).all flatV = true := flat_strs sorts
section
variable {P : Program} {w : World} {K : PySem.W.Frag} {mg : Str → Option Value} {base : Heap}
def spIsRow (K : PySem.W.Frag) : Sp := fun vs H Q _ => ∃ (r a : Addr) (kvs : List (Key × V)) (f : Key → Int × Int) (srt : Str) (num : Int × Int) (m B : Nat), vs = [.ref r] ∧ RowT K m H r a kvs f srt num ∧ m ≤ 900 ∧ (∀ k, Okb B (f k)) ∧ Okb B num ∧ ∀ H', Same H H' → Q (.bl true) H'
def spFar : Sp := fun vs H Q _ => ∃ st c : Addr, vs = [.ref st] ∧ StA st c H ∧ ∀ H' p (num : Int × Int), But st H H' → StA st c H' → H' p = some (.tup [.int num.1, .int num.2]) → Okb 100 num → num.1 ≠ 0 → Q (.ref p) H'
theorem scFar : FnScope ["_law_state", "_law_way", "_law_top", "_law_under"] ["_law_state"] (defScope sFar) := ⟨rfl, rfl, rfl, by decide +kernel, rfl, by decide +kernel, by decide +kernel⟩
theorem ok_far {f : Addr} {fd : FuncData} (F : Fun K "_law_far_number" "_law_far_number" sFar f fd) (tk : Cl P w K mg base CX0 3 "_law_take" spTake []) (fc : Cl P w K mg base CX0 2 "_law_frac" spFrac []) : FnOk P w K mg base CX0 4 f fd ["_law_state"] spFar := by
  refine F.ok scFar (fun vs H Q E h => ?_) (fun cdv A outer s H vs Q E hr h => ?_)
  · obtain ⟨_, _, rfl, _⟩ := h
    rfl
  · obtain ⟨st, c, rfl, sa, q⟩ := h
    refine ⟨_, pss_cons (ps_set (i := 1) scFar.nd rfl (.inl rfl) (pc0 tk hr (by decide) (pa_cons (pv 0) (pa_cons pe_int pa_nil))))
      (pss_cons (ps_set (i := 2) scFar.nd rfl (.inl rfl) (pe_op op_add pe_int (pc0 tk hr (by decide) (pa_cons (pv 0) (pa_cons (pe_ix ix_list (pe_lst (pa_cons pe_int (pa_cons pe_int (pa_cons pe_int (pa_cons pe_int (pa_cons (pe_op op_pow pe_int pe_int) pa_nil)))))) (pv 1) (fun _ _ => rfl)) pa_nil)))))
      (pss_cons (ps_set (i := 3) scFar.nd rfl (.inl rfl) (pe_op op_add pe_int (pc0 tk hr (by decide) (pa_cons (pv 0) (pa_cons (pe_ix ix_list (pe_lst (pa_cons pe_int (pa_cons pe_int (pa_cons pe_int (pa_cons pe_int (pa_cons (pe_op op_pow pe_int pe_int) pa_nil)))))) (pv 1) (fun _ _ => rfl)) pa_nil)))))
      (pss_one (ps_ret (pc0 fc hr (by decide) (pa_cons (pe_op op_mulW (pv 2) (pe_op op_sub pe_int (pe_op op_mul pe_int (pc0 tk hr (by decide) (pa_cons (pv 0) (pa_cons pe_int pa_nil)))))) (pa_cons (pv 3) pa_nil))))))), ?_⟩
    have pick : ∀ (l : List Int) (d : Int), l.length = 5 → (∀ x ∈ l, 0 < x ∧ x ≤ 10 ^ 29) → 0 ≤ d → d < 5 → ∃ x : Int, atI (l.map V.int) d = some (.int x) ∧ 0 < x ∧ x ≤ 10 ^ 29 := fun l d hl hx h0 h5 => by
      have hn : d.toNat < l.length := by omega
      refine ⟨l[d.toNat], ?_, hx _ (List.getElem_mem hn)⟩
      refine at_of (j := d.toNat) (by omega) ?_
      rw [List.getElem?_map, List.getElem?_eq_getElem hn]
      rfl
    refine ⟨_, rfl, st, c, 5, rfl, by decide, lt8 (by decide), sa, fun H1 d1 b1 s1 l1 u1 => ?_⟩
    refine ⟨_, rfl, 10, 29, rfl, rfl, ⟨by decide, by decide, by decide⟩, by show 5 ≤ sizeLine; decide, fun L nL => ?_⟩
    obtain ⟨x, ex, x0, x1⟩ := pick [12, 12, 1, 1, 10 ^ 29] d1 rfl (by decide) l1 u1
    have sL := same_new (o := .lst [.int 12, .int 12, .int 1, .int 1, .int (10 ^ 29)]) nL
    refine ⟨_, rfl, L, _, d1, _, rfl, rfl, SqL.of upd_same, ex, st, c, x, rfl, x0, lt8 (by omega), s1.same sL, fun H2 d2 b2 s2 l2 u2 => ⟨1, d2, rfl, rfl, ?_⟩⟩
    refine ⟨_, rfl, 10, 29, rfl, rfl, ⟨by decide, by decide, by decide⟩, by show 5 ≤ sizeLine; decide, fun L2 nL2 => ?_⟩
    obtain ⟨y, ey, y0, y1⟩ := pick [1, 9, 1, 1, 10 ^ 29] d1 rfl (by decide) l1 u1
    have sL2 := same_new (o := .lst [.int 1, .int 9, .int 1, .int 1, .int (10 ^ 29)]) nL2
    refine ⟨_, rfl, L2, _, d1, _, rfl, rfl, SqL.of upd_same, ey, st, c, y, rfl, y0, lt8 (by omega), s2.same sL2, fun H3 d3 b3 s3 l3 u3 => ⟨1, d3, rfl, rfl, ?_⟩⟩
    refine ⟨_, rfl, _, rfl, st, c, 2, rfl, by decide, lt8 (by decide), s3, fun H4 d4 b4 s4 l4 u4 => ?_⟩
    refine ⟨2, d4, rfl, rfl, .inl ⟨by decide, by decide⟩, 1, 2 * d4, rfl, rfl, 1 + d2, 1 - 2 * d4, rfl, rfl, wide_mul (a := 100) (b := 100) (by omega) (by omega) (by decide) (by decide) (by decide), ?_⟩
    have n1 : 1 + d3 ≠ 0 := by omega
    have n2 : (1 + d3).natAbs < 2 ^ 100 := by omega
    obtain ⟨t, et⟩ : ∃ t, (1 + d2) * (1 - 2 * d4) = t := ⟨_, rfl⟩
    have n3 : t.natAbs < 2 ^ 100 ∧ t ≠ 0 := by
      rcases (show d4 = 0 ∨ d4 = 1 by omega) with e | e <;> subst e <;> omega
    refine ⟨_, rfl, t, 1 + d3, by subst et; rfl, n1, lt8 n2, fun p np => ?_⟩
    have sp := same_new (o := .tup [.int (fr1 t (1 + d3)), .int (fr2 t (1 + d3))]) np
    have B : But st H H4 := ((((b1.trans (Same.but sL)).trans b2).trans (Same.but sL2)).trans b3).trans b4
    refine q _ p (fr1 t (1 + d3), fr2 t (1 + d3)) (B.trans (Same.but sp)) (s4.same sp) upd_same ⟨fr2_pos n1, Nat.lt_of_le_of_lt (fr1_le n1) n3.1, Nat.lt_of_le_of_lt (fr2_le n1) n2, fr_gcd n1⟩ fun z => n3.2 ?_
    have e := fr1_eq (t := t) n1
    have z' : fr1 t (1 + d3) = 0 := z
    rw [z', Int.zero_mul] at e
    exact e.symm
def spRowLike (K : PySem.W.Frag) : Sp := fun vs H Q _ => ∃ (r a r' a' : Addr) (kvs ls : List (Key × V)) (f : Key → Int × Int) (srt : Str) (num : Int × Int) (m m' B : Nat), vs = [.ref r, .ref r'] ∧ RowT K m H r a kvs f srt num ∧ RowT K m' H r' a' ls f srt num ∧ m ≤ 900 ∧ (∀ k, Okb B (f k)) ∧ Okb B num ∧ ∀ H', Same H H' → Q (.bl true) H'
end
end SS


namespace SS
open PySem PySem.Spec PyProof.Rows L2
theorem mid {Inv C : L2.St → Hp → Prop} {G : Prop} (m : (∀ σ H, Inv σ H → C σ H) → G) (k : ∀ σ H, Inv σ H → C σ H) : G := m k
theorem DM.perm {z : Prop} {m : Nat} {H : Hp} {a c : Addr} {kvs ks : List (Key × V)} {f : Key → Int × Int} (h : DM z m H a kvs f) (p : ks.Perm kvs) (n : H c = none) : DM z m (L2.upd H c (.dK ks)) c ks f := by
  have q := h.same (same_new (o := .dK ks) n)
  obtain ⟨_, h2, h3, h4, _⟩ := q
  have pm := p.map (fun x : Key × V => x.1)
  refine ⟨upd_same, pm.nodup_iff.mpr h2, by rw [p.length_eq]; exact h3, fun x hx => h4 x (p.mem_iff.mp hx), fun k e => h.out fun hm => ?_⟩
  exact valV_not e (pm.mem_iff.mpr hm)
section
variable {P : Program} {w : World} {K : PySem.W.Frag} {mg : Str → Option Value} {base : Heap}
def spAnyRow (K : PySem.W.Frag) : Sp := fun vs H Q _ => ∃ (st c u : Addr) (xs : List Str), vs = [.ref st, .ref u] ∧ StA st c H ∧ H u = some (.lst (xs.map V.str)) ∧ xs.length ≤ 8 ∧ (∀ x ∈ xs, NmOk x) ∧
  ∀ H' r a kvs f srt num, But st H H' → StA st c H' → H a = none → RowT K 9 H' r a kvs f srt num → (∀ k, Okb 20 (f k)) → Okb 20 num → Q (.ref r) H'
theorem scAnyRow : FnScope ["_law_state", "_law_unknowns", "_law_one", "_law_keys", "_law_sort", "_law_key"] ["_law_state", "_law_unknowns"] (defScope sAnyRow) := ⟨rfl, rfl, rfl, by decide +kernel, rfl, by decide +kernel, by decide +kernel⟩
set_option maxHeartbeats 2000000 in
theorem ok_anyrow {f' : Addr} {fd : FuncData} (F : Fun K "_law_any_row" "_law_any_row" sAnyRow f' fd) (md : mg "dict" = none) (mli : mg "list" = none) (ss : Cl P w K mg base CX0 5 "_law_some_sum" spSsum []) (tk : Cl P w K mg base CX0 3 "_law_take" spTake []) (nm : Cl P w K mg base CX0 4 "_law_number" spNumber []) :
    FnOk P w K mg base CX0 6 f' fd ["_law_state", "_law_unknowns"] (spAnyRow K) := by
  refine F.ok scAnyRow (fun vs H Q E h => ?_) (fun cdv A outer s H vs Q E hr h => ?_)
  · obtain ⟨_, _, _, _, rfl, _⟩ := h
    rfl
  · obtain ⟨st, c, u, xs, rfl, s0, hu0, xl, hx, q⟩ := h
    have hu := hu_of hr
    refine ⟨_, pss_cons (ps_set (i := 2) scAnyRow.nd rfl (.inr rfl) (pc0 ss hr (by decide) (pa_cons (pv 0) (pa_cons (pv 1) pa_nil))))
      (pss_cons (ps_set (i := 3) scAnyRow.nd rfl (.inl rfl) (pe_callTy (call_list_dK rfl) (by rfl) mli (by decide +kernel) (pa_cons (pv 2) pa_nil)))
      (pss_cons (ps_if (pt_cmpR op_eq (pc0 tk hr (by decide) (pa_cons (pv 0) (pa_cons pe_int pa_nil))) pe_int (nomark _)) (pss_one (ps_set (i := 3) scAnyRow.nd rfl (.inl rfl) (pe_revL (pv 3)))) pss_nil)
      (pss_cons (ps_set (i := 4) scAnyRow.nd rfl (.inl rfl) (pe_ix ix_tup (pe_tup (pa_cons pe_str (pa_cons pe_str (pa_cons pe_str (pa_cons pe_str (pa_cons pe_str pa_nil)))))) (pc0 tk hr (by decide) (pa_cons (pv 0) (pa_cons pe_int pa_nil))) (fun _ _ => rfl)))
      (pss_one (ps_ret (pe_tup (pa_cons (pe_callTy (call_dictP rfl) (by rfl) md (by decide +kernel) (pa_cons (pe_lc (own := [("_law_key", 5)]) (g := gName 5) (tt := tYes) rfl scAnyRow.nd (pi_list (pv 3)) (blkOk_by (by rfl))
          (fun _ _ _ _ _ => pg_name (i := 5) scAnyRow.nd rfl (Or.inl rfl)) (fun _ _ _ _ _ => pts_nil)
          (fun _ _ _ _ _ => pe_tup (pa_cons (pv 5) (pa_cons (pe_dget hu (pv 2) (pv 5) (fun _ _ => rfl)) pa_nil)))) pa_nil)) (pa_cons (pv 4) (pa_cons (pc0 nm hr (by decide) (pa_cons (pv 0) pa_nil)) pa_nil))))))))), ?_⟩
    refine ⟨_, rfl, _, rfl, st, c, u, xs, rfl, s0, hu0, by omega, hx, fun H1 a1 k1 b1 s1 na1 d1 z1 => ?_⟩
    have D1 : DM True 9 H1 a1 k1 (pval H1 k1) := (d1.dm z1).mono (by omega)
    have ok1 : ∀ k, Okb 20 (pval H1 k1 k) := fun k => d1.okp (k := 19) k
    generalize pval H1 k1 = f1 at D1 ok1
    refine ⟨_, rfl, a1, k1, rfl, D1.1, fun L nL => ?_⟩
    have sL := same_new (o := .lst (k1.map fun kv => kV kv.1)) nL
    have hL := upd_same (H := H1) (a := L) (o := .lst (k1.map fun kv => kV kv.1))
    have s2 := s1.same sL
    have D2 := D1.same sL
    have B2 : But st H _ := b1.trans (Same.but sL)
    have Ls := s1.fresh nL
    generalize upd H1 L (.lst (k1.map fun kv => kV kv.1)) = H2 at hL s2 D2 B2 ⊢
    refine' mid (C := _) (Inv := fun σ H' => ∃ (Lk : Addr) (ks : List (Key × V)) (y4 y5 : Option V), σ = [some (.ref st), some (.ref u), some (.ref a1), some (.ref Lk), y4, y5] ∧ But st H H' ∧ StA st c H' ∧ DM True 9 H' a1 k1 f1 ∧ ks.Perm k1 ∧ H' Lk = some (.lst (ks.map fun kv => kV kv.1))) (fun key => ?main) ?cont
    case main =>
      refine ⟨_, rfl, st, c, 2, rfl, by decide, lt8 (by decide), s2, fun H3 d3 b3 s3 l3 u3 => ⟨rfl, _, rfl, ite2 (fun e => ?ya) (fun e => ?yb)⟩⟩
      case yb => exact key _ _ ⟨L, k1, _, _, rfl, B2.trans b3, s3, D2.but b3 s2, List.Perm.refl _, b3 _ _ Ls hL⟩
      case ya =>
        have hL3 := b3 _ _ Ls hL
        refine ⟨_, rfl, L, _, rfl, SqL.of hL3, fun L2 nL2 => ?_⟩
        have sL2 := same_new (o := .lst (k1.map fun kv => kV kv.1).reverse) nL2
        refine key _ _ ⟨L2, k1.reverse, _, _, rfl, (B2.trans b3).trans (Same.but sL2), s3.same sL2, (D2.but b3 s2).same sL2, List.reverse_perm k1, ?_⟩
        rw [upd_same, List.map_reverse]
    case cont =>
      rintro σ H4 ⟨Lk, ks, y4, y5, rfl, B4, s4, D4, pm, hLk⟩
      have kl : ks.length ≤ 9 := by
        rw [pm.length_eq]
        exact D4.2.2.1
      have ndk : (ks.map (·.1)).Nodup := (pm.map (fun x : Key × V => x.1)).nodup_iff.mpr D4.2.1
      have Lks : Lk ≠ st := fun e => by
        obtain ⟨i, n, ff, ys, g1, _⟩ := s4
        rw [e, g1] at hLk
        have z := HO.lst.inj (Option.some.inj hLk)
        cases ks with
        | nil => cases z
        | cons p r =>
          have z1 : V.ref c = kV p.1 := (List.cons.inj z).1
          cases hk : p.1 with
          | inl i =>
            rw [hk] at z1
            cases z1
          | inr x =>
            rw [hk] at z1
            cases z1
      refine ⟨by show 5 ≤ sizeLine; decide, fun U nU => ?_⟩
      have sU := same_new (o := .tup (sorts.map V.str)) nU
      refine ⟨_, rfl, st, c, 5, rfl, by decide, lt8 (by decide), s4.same sU, fun H5 d5 b5 s5 l5 u5 => ?_⟩
      obtain ⟨srt, hs1, hs2⟩ := at_str (xs := sorts) l5 u5
      have hU5 : H5 U = some (.tup (sorts.map V.str)) := b5.tup (s4.same sU) upd_same
      refine ⟨U, _, d5, _, rfl, rfl, SqT.of hU5, hs2, ?_⟩
      have D5 := (D4.same sU).but b5 (s4.same sU)
      have hL5 := b5 _ _ Lks (sU _ _ hLk)
      have B5 := (B4.trans (Same.but sU)).trans b5
      clear hU5 sU nU
      refine ⟨_, rfl, Lk, rfl, ⟨_, SqL.of hL5⟩, fun D nD => ?_⟩
      have Ds := s5.fresh nD
      have Dc := s5.fresh2 nD
      have LD : Lk ≠ D := ne_of_none hL5 nD
      refine lc_list (K := K) (a := Lk) (xs := ks.map fun kv => kV kv.1) (fun i H' => ∃ ts : List Addr, H' D = some (.lst (ts.map V.ref)) ∧ (∀ x o, x ≠ D → H5 x = some o → H' x = some o) ∧ Paired (fun (t : Addr) (q : Key × V) => H' t = some (.tup [kV q.1, q.2])) ts (ks.take i))
        ⟨[], upd_same, fun x o n2 e => by rw [upd_ne n2]; exact e, .nil⟩ (fun i H' _ ⟨_, _, w3, _⟩ => SqL.of (w3 _ _ LD hL5)) ?_ ?_
      · rintro i y H6 hy ⟨ts, w1, w3, w5⟩
        obtain ⟨p, hp, rfl⟩ : ∃ p, ks[i]? = some p ∧ y = kV p.1 := by
          rw [List.getElem?_map] at hy
          cases e : ks[i]? with
          | none =>
            rw [e] at hy
            cases hy
          | some p =>
            rw [e] at hy
            exact ⟨p, rfl, (Option.some.inj hy).symm⟩
        have hi : i < 9 := Nat.lt_of_lt_of_le (List.getElem?_eq_some_iff.mp hp).1 kl
        have a1D : a1 ≠ D := ne_of_none D5.1 nD
        have ev : valV k1 p.1 = some p.2 := val_nodup D5.2.1 p (pm.mem_iff.mp (List.mem_of_getElem? hp))
        have dg : DGet H6 a1 (kV p.1) (some p.2) := by
          have z := DGet.k (k := p.1) (w3 _ _ a1D D5.1)
          rw [ev] at z
          exact z
        refine ⟨rfl, _, rfl, _, rfl, _, rfl, a1, _, rfl, dg, small2, fun T nT => ?_⟩
        have sT := same_new (o := .tup [kV p.1, p.2]) nT
        have hD7 := sT _ _ w1
        have kD := keep_l (o := .lst (ts.map V.ref ++ [.ref T])) hD7
        have tl : ts.length ≤ i := by
          have z := (paired_at w5).1
          rw [List.length_take] at z
          omega
        refine ⟨_, hD7, ?_, ts ++ [T], ?_, ?_, ?_⟩
        · rw [List.length_map]
          exact small1000 (by omega)
        · rw [upd_same, List.map_append]
          rfl
        · intro x' o n2 e'
          rw [upd_ne n2]
          exact sT _ _ (w3 _ _ n2 e')
        · rw [List.take_add_one, hp]
          exact Paired.snocX (Paired.impX w5 fun t q' ht => kD _ _ (sT _ _ ht)) (kD _ _ upd_same)
      · rintro H6 ⟨ts, w1, w3, w5⟩
        have ek : ks.take (ks.map fun kv => kV kv.1).length = ks := by rw [List.length_map]; exact List.take_length
        rw [ek] at w5
        refine ⟨D, ts, ks, rfl, SqL.of w1, Paired.impX w5 (fun t q' ht => SqT.of ht), fun Pt nPt => ?_⟩
        rw [merge_nd ks [] ndk]
        have S6 : Same H5 H6 := fun x o e => w3 _ _ (ne_of_none e nD) e
        have DP := (D5.same S6).perm pm nPt
        have sP := same_new (o := .dK ks) nPt
        have s6 := (s5.same S6).same sP
        have B6 := (B5.trans (Same.but S6)).trans (Same.but sP)
        refine ⟨_, rfl, _, rfl, st, c, rfl, s6, fun H7 p7 b7 s7 f7 => ⟨by show 3 ≤ sizeLine; decide, fun R nR => ?_⟩⟩
        have sR := same_new (o := .tup [.ref Pt, .str srt, .ref p7]) nR
        have hn := f7.val.1
        have okn := f7.okb
        generalize fval H7 (.ref p7) = num at hn okn
        refine q _ R Pt ks f1 srt num ((B6.trans b7).trans (Same.but sR)) (s7.same sR) ?_ ⟨p7, upd_same, (DP.but b7 s6).same sR, FrT.of (sR _ _ hn), hs1⟩ ok1 okn
        cases e : H Pt with
        | none => rfl
        | some o =>
          exfalso
          by_cases c1 : Pt = st
          · obtain ⟨i, n, ff, xs', g1, _⟩ := s5.same S6
            rw [c1, g1] at nPt
            cases nPt
          · have z := (B5.trans (Same.but S6)) _ _ c1 e
            rw [nPt] at z
            cases z
end
end SS
namespace SS
open PySem PySem.Spec PyProof.Rows L2
theorem ratDen (x : Rat) : x * ((x.den : Nat) : Rat) = (x.num : Rat) := by
  have d0 : ((x.den : Nat) : Rat) ≠ 0 := fun z => x.den_nz (by exact_mod_cast z)
  have e : x = (x.num : Rat) / ((x.den : Nat) : Rat) := by
    have z := Rat.num_divInt_den x
    rw [Rat.divInt_eq_div, Rat.intCast_natCast] at z
    exact z.symm
  generalize (x.num : Rat) = n at *
  generalize ((x.den : Nat) : Rat) = d at *
  rw [e]
  grind
theorem ratDivPos {a b : Rat} (ha : 0 < a) (hb : 0 < b) : 0 < a / b := by
  rw [Rat.div_def]
  exact Rat.mul_pos ha (Rat.inv_pos.mpr hb)
theorem ratNumPos {x : Rat} (h : 0 < x) : 0 < x.num := by
  have z := (Rat.lt_iff 0 x).mp h
  simpa using z
/-! ### the number by which fractions become whole numbers that nothing divides all -/
def IsMk (m : Rat) (L : List Rat) : Prop := 0 < m ∧ (∀ q ∈ L, ∃ z : Int, q * m = (z : Rat)) ∧ ∀ d : Nat, (∀ q ∈ L, ∃ z : Int, q * m = ((((d : Nat) : Int) * z : Int) : Rat)) → d = 1
theorem mk_half {m m' : Rat} {L : List Rat} (h : IsMk m L) (h' : IsMk m' L) : (m' / m).den = 1 := by
  refine h.2.2 _ fun q hq => ?_
  obtain ⟨z, hz⟩ := h.2.1 q hq
  obtain ⟨z', hz'⟩ := h'.2.1 q hq
  have m0 : m ≠ 0 := by have := h.1; grind
  have e : (z : Rat) * (m' / m) = (z' : Rat) := by
    rw [← hz, ← hz']
    grind
  have e2 : (z : Rat) * ((m' / m).num : Rat) = (z' : Rat) * ((m' / m).den : Rat) := by
    have e3 := ratDen (m' / m)
    calc (z : Rat) * ((m' / m).num : Rat) = (z : Rat) * ((m' / m) * ((m' / m).den : Rat)) := by rw [e3]
      _ = ((z : Rat) * (m' / m)) * ((m' / m).den : Rat) := by grind
      _ = (z' : Rat) * ((m' / m).den : Rat) := by rw [e]
  have e4 : z * (m' / m).num = z' * ((m' / m).den : Int) := by
    have e5 : ((z * (m' / m).num : Int) : Rat) = ((z' * ((m' / m).den : Int) : Int) : Rat) := by
      rw [Rat.intCast_mul, Rat.intCast_mul, Rat.intCast_natCast]
      exact e2
    exact Rat.intCast_inj.mp e5
  have dv : (((m' / m).den : Nat) : Int) ∣ z := by
    have c : Int.gcd (((m' / m).den : Nat) : Int) (m' / m).num = 1 := by
      rw [Int.gcd_comm]
      exact (m' / m).reduced
    refine dvdCop (b := (m' / m).num) ⟨z', ?_⟩ c
    rw [Int.mul_comm, e4, Int.mul_comm]
  obtain ⟨k, hk⟩ := dv
  exact ⟨k, by rw [hz, hk]⟩
theorem mk_uniq {m m' : Rat} {L : List Rat} (h : IsMk m L) (h' : IsMk m' L) : m = m' := by
  have a := mk_half h h'
  have b := mk_half h' h
  have m0 : 0 < m := h.1
  have m0' : 0 < m' := h'.1
  -- both m'/m and m/m' are whole numbers above nought
  have e1 : m' / m = ((m' / m).num : Rat) := by
    have z := ratDen (m' / m)
    rw [a] at z
    grind
  have e2 : m / m' = ((m / m').num : Rat) := by
    have z := ratDen (m / m')
    rw [b] at z
    grind
  have p : (m' / m) * (m / m') = 1 := by grind
  have p1 : 0 < m' / m := by
    have := ratDivPos m0' m0
    exact this
  have p2 : 0 < m / m' := ratDivPos m0 m0'
  have q : (m' / m).num * (m / m').num = 1 := by
    have z : (((m' / m).num * (m / m').num : Int) : Rat) = ((1 : Int) : Rat) := by
      rw [Rat.intCast_mul, ← e1, ← e2, p]
      rfl
    exact Rat.intCast_inj.mp z
  have n1 : 0 < (m' / m).num := ratNumPos p1
  have n2 : 0 < (m / m').num := ratNumPos p2
  have o : (m' / m).num = 1 := by
    have le := Int.mul_le_mul_of_nonneg_left (show (1 : Int) ≤ (m / m').num by omega) (Int.le_of_lt n1)
    omega
  rw [o] at e1
  have e3 : m' / m = 1 := by rw [e1]; rfl
  grind
/-- the greatest divisor of all tops over one bottom -/
def gl (B : Int) (L : List (Int × Int)) : Nat := L.foldl (fun g q => Int.gcd (g : Int) (q.1 * (B / q.2))) 0
theorem gl_snoc (B : Int) (L : List (Int × Int)) (q : Int × Int) : gl B (L ++ [q]) = Int.gcd (gl B L : Int) (q.1 * (B / q.2)) := by
  unfold gl
  rw [List.foldl_append]
  rfl
theorem gl_dvd {B : Int} : ∀ (n : Nat) (L : List (Int × Int)), L.length = n → ∀ q ∈ L, ((gl B L : Nat) : Int) ∣ q.1 * (B / q.2)
  | 0, L, h, q, hq => by rw [List.eq_nil_of_length_eq_zero h] at hq; cases hq
  | n + 1, L, h, q, hq => by
    obtain ⟨M, p, rfl⟩ : ∃ M p, L = M ++ [p] := by
      have ne : L ≠ [] := fun z => by rw [z] at h; cases h
      exact ⟨L.dropLast, L.getLast ne, (List.dropLast_concat_getLast ne).symm⟩
    have hM : M.length = n := by
      rw [List.length_append] at h
      exact Nat.succ.inj h
    rw [gl_snoc]
    rcases List.mem_append.mp hq with z | z
    · exact Int.dvd_trans (Int.gcd_dvd_left _ _) (gl_dvd n M hM q z)
    · rw [List.mem_singleton.mp z]
      exact Int.gcd_dvd_right _ _
theorem gl_most {B : Int} {d : Int} : ∀ (n : Nat) (L : List (Int × Int)), L.length = n → (∀ q ∈ L, d ∣ q.1 * (B / q.2)) → d ∣ ((gl B L : Nat) : Int)
  | 0, L, h, _ => by
    rw [List.eq_nil_of_length_eq_zero h]
    exact Int.dvd_zero d
  | n + 1, L, h, hd => by
    obtain ⟨M, p, rfl⟩ : ∃ M p, L = M ++ [p] := by
      have ne : L ≠ [] := fun z => by rw [z] at h; cases h
      exact ⟨L.dropLast, L.getLast ne, (List.dropLast_concat_getLast ne).symm⟩
    have hM : M.length = n := by
      rw [List.length_append] at h
      exact Nat.succ.inj h
    rw [gl_snoc]
    exact Int.dvd_coe_gcd (gl_most n M hM fun q hq => hd q (List.mem_append.mpr (.inl hq))) (hd p (List.mem_append.mpr (.inr (List.mem_singleton.mpr rfl))))
/-- B over that divisor is the number looked for, B being a multiple of all bottoms -/
theorem mk_of {B : Int} {L : List (Int × Int)} (hB : 0 < B) (hd : ∀ q ∈ L, 0 < q.2 ∧ q.2 ∣ B) (hg : gl B L ≠ 0) : IsMk ((B : Rat) / ((gl B L : Nat) : Rat)) (L.map toQ) := by
  have g0 : ((gl B L : Nat) : Rat) ≠ 0 := fun z => hg (by exact_mod_cast z)
  have ent : ∀ q ∈ L, ∃ t : Int, q.1 * (B / q.2) = (gl B L : Int) * t ∧ toQ q * ((B : Rat) / ((gl B L : Nat) : Rat)) = (t : Rat) := fun q hq => by
    obtain ⟨t, ht⟩ := gl_dvd _ L rfl q hq
    refine ⟨t, ht, ?_⟩
    obtain ⟨p0, c, hc⟩ := hd q hq
    have ec : B / q.2 = c := by
      rw [hc]
      exact Int.mul_ediv_cancel_left _ (Int.ne_of_gt p0)
    rw [ec] at ht
    have r1 : toQ q = (q.1 : Rat) / (q.2 : Rat) := Rat.divInt_eq_div _ _
    have r2 : (q.1 : Rat) * (c : Rat) = ((gl B L : Nat) : Rat) * (t : Rat) := by
      have z : ((q.1 * c : Int) : Rat) = ((((gl B L : Nat) : Int) * t : Int) : Rat) := congrArg (fun z : Int => (z : Rat)) ht
      rw [Rat.intCast_mul, Rat.intCast_mul, Rat.intCast_natCast] at z
      exact z
    have r3 : (B : Rat) = (q.2 : Rat) * (c : Rat) := by
      have z : (B : Rat) = ((q.2 * c : Int) : Rat) := congrArg (fun z : Int => (z : Rat)) hc
      rw [Rat.intCast_mul] at z
      exact z
    have q0 : (q.2 : Rat) ≠ 0 := fun z => by
      have z2 : q.2 = 0 := by exact_mod_cast z
      omega
    rw [r1, r3]
    grind
  refine ⟨?_, fun x hx => ?_, fun d h => ?_⟩
  · have gp : 0 < ((gl B L : Nat) : Rat) := by
      have : 0 < gl B L := Nat.pos_of_ne_zero hg
      exact_mod_cast this
    have bp : (0 : Rat) < (B : Rat) := by exact_mod_cast hB
    exact ratDivPos bp gp
  · obtain ⟨q, hq, rfl⟩ := List.mem_map.mp hx
    obtain ⟨t, _, ht⟩ := ent q hq
    exact ⟨t, ht⟩
  · have dv : ((((gl B L) * d : Nat)) : Int) ∣ ((gl B L : Nat) : Int) := by
      refine gl_most _ L rfl fun q hq => ?_
      obtain ⟨t, e1, e2⟩ := ent q hq
      obtain ⟨z, hz⟩ := h (toQ q) (List.mem_map.mpr ⟨q, hq, rfl⟩)
      rw [e2] at hz
      have tz : t = ((d : Nat) : Int) * z := Rat.intCast_inj.mp hz
      exact ⟨z, by rw [e1, tz, Int.natCast_mul, Int.mul_assoc]⟩
    have dv2 : gl B L * d ∣ gl B L := Int.natCast_dvd_natCast.mp dv
    have le := Nat.le_of_dvd (Nat.pos_of_ne_zero hg) dv2
    have p : 0 < gl B L := Nat.pos_of_ne_zero hg
    cases d with
    | zero =>
      rw [Nat.mul_zero] at dv2
      exact absurd (Nat.eq_zero_of_zero_dvd dv2) hg
    | succ n =>
      cases n with
      | zero => rfl
      | succ k =>
        have : gl B L * 2 ≤ gl B L * (k + 1 + 1) := Nat.mul_le_mul_left _ (by omega)
        omega
end SS
namespace SS
open PySem PySem.Spec PyProof.Rows L2
theorem lcm_step {B d : Int} (hB : 0 < B) (hd : 0 < d) : 0 < (B * d).fdiv ((Int.gcd B d : Nat) : Int) ∧ B ∣ (B * d).fdiv ((Int.gcd B d : Nat) : Int) ∧ d ∣ (B * d).fdiv ((Int.gcd B d : Nat) : Int) ∧ ((B * d).fdiv ((Int.gcd B d : Nat) : Int)).natAbs ≤ (B * d).natAbs := by
  obtain ⟨u, v, hu, hv, _⟩ := gcdParts (a := B) (b := d) (Int.ne_of_gt hd)
  have g0 : 0 < ((Int.gcd B d : Nat) : Int) := by
    have := gcdP (t := B) (Int.ne_of_gt hd)
    omega
  generalize ((Int.gcd B d : Nat) : Int) = g at *
  have e : (B * d).fdiv g = u * d := by
    have e1 : B * d = g * (u * d) := by rw [hu, Int.mul_assoc]
    rw [e1]
    exact gcdDvdMul (Int.ne_of_gt g0)
  have u0 : 0 < u := posMul g0 (by rw [← hu]; exact hB)
  rw [e]
  refine ⟨Int.mul_pos u0 hd, ⟨v, ?_⟩, ⟨u, Int.mul_comm _ _⟩, ?_⟩
  · calc u * d = u * (g * v) := by rw [← hv]
      _ = (g * u) * v := by rw [Int.mul_left_comm, Int.mul_assoc]
      _ = B * v := by rw [← hu]
  · rw [Int.natAbs_mul, Int.natAbs_mul]
    refine Nat.mul_le_mul_right _ ?_
    have z := congrArg Int.natAbs hu
    rw [Int.natAbs_mul] at z
    rw [z]
    exact Nat.le_mul_of_pos_left _ (Int.natAbs_pos.mpr (Int.ne_of_gt g0))
theorem mk_gl {B : Int} {L : List (Int × Int)} {m : Rat} (hB : 0 < B) (hd : ∀ q ∈ L, 0 < q.2 ∧ q.2 ∣ B) (h : IsMk m (L.map toQ)) : gl B L ≠ 0 := fun z => by
  have all : ∀ q ∈ L, q.1 = 0 := fun q hq => by
    have dv := gl_dvd (B := B) _ L rfl q hq
    rw [z] at dv
    have e := Int.zero_dvd.mp dv
    rcases Int.mul_eq_zero.mp e with c | c
    · exact c
    · obtain ⟨p0, k, hk⟩ := hd q hq
      rw [hk, Int.mul_ediv_cancel_left _ (Int.ne_of_gt p0)] at c
      rw [c, Int.mul_zero] at hk
      omega
  have two := h.2.2 2 fun x hx => by
    obtain ⟨q, hq, rfl⟩ := List.mem_map.mp hx
    refine ⟨0, ?_⟩
    have e0 : toQ q = 0 := by
      unfold toQ
      rw [all q hq, Rat.zero_divInt]
    rw [e0, Rat.zero_mul]
    rfl
  exact absurd two (by decide)
theorem mk_pair {B : Int} {L : List (Int × Int)} {mp : Int × Int} (hB : 0 < B) (hd : ∀ q ∈ L, 0 < q.2 ∧ q.2 ∣ B) (lo : Lo mp) (h : IsMk (toQ mp) (L.map toQ)) : (fr1 B (gl B L : Int), fr2 B (gl B L : Int)) = mp := by
  have g0 := mk_gl hB hd h
  have gi : ((gl B L : Nat) : Int) ≠ 0 := by omega
  refine toQ_inj (lo_fr gi) lo ?_
  rw [toQ_fr gi, Rat.divInt_eq_div, Rat.intCast_natCast]
  exact mk_uniq (mk_of hB hd g0) h
section
variable {P : Program} {w : World} {K : PySem.W.Frag} {mg : Str → Option Value} {base : Heap}
/-- at the addresses rs stand the fractions es -/
def FL (K : PySem.W.Frag) (H : Hp) (rs : List Addr) (es : List (Int × Int)) : Prop := rs.length = es.length ∧ ∀ (i : Nat) (r : Addr), rs[i]? = some r → ∃ e, es[i]? = some e ∧ FrT K H r e.1 e.2
def spMaker (K : PySem.W.Frag) : Sp := fun vs H Q _ => ∃ (l : Addr) (rs : List Addr) (es : List (Int × Int)) (mp : Int × Int) (A : Nat), vs = [.ref l] ∧ H l = some (.lst (rs.map V.ref)) ∧ FL K H rs es ∧ (∀ e ∈ es, Okb A e) ∧ A * es.length ≤ 2950 ∧ A ≤ 2900 ∧ es.length ≤ 20 ∧ Lo mp ∧ IsMk (toQ mp) (es.map toQ) ∧
  ∀ r, H r = none → Q (.ref r) (upd H r (.tup [.int mp.1, .int mp.2]))
theorem scMaker : FnScope ["numbers", "bottom", "number", "divisor"] ["numbers"] (defScope sMaker) := ⟨rfl, rfl, rfl, by decide +kernel, rfl, by decide +kernel, by decide +kernel⟩
theorem ok_maker {f C : Addr} {fd : FuncData} (F : Fun K "whole_maker" "whole_maker" sMaker f fd) (cd : Cl P w K mg base CX0 1 "common_divisor" spGcd []) (fo : Cl P w K mg base (L2.CX P w) 2 "fraction_of" (spFo C) []) : FnOk P w K mg base CX0 3 f fd ["numbers"] (spMaker K) := by
  refine F.ok scMaker (fun vs H Q E h => ?_) (fun cdv A' outer s H vs Q E hr h => ?_)
  · obtain ⟨_, _, _, _, _, rfl, _⟩ := h
    rfl
  · obtain ⟨l, rs, es, mp, A, rfl, hl, fl, ok, hA, A1, hn, lo, mk, q⟩ := h
    refine ⟨_, pss_cons (ps_set (i := 1) scMaker.nd rfl (.inl rfl) pe_int)
      (pss_cons (ps_for PassesOwn.never rfl (pi_list (pv 0)) (pg_name (i := 2) scMaker.nd rfl (.inl rfl))
        (pss_one (ps_set (i := 1) scMaker.nd rfl (.inl rfl) (pe_op op_fdivG (pe_op op_mulW (pv 1) (pe_ix ix_tup (pv 2) pe_int (fun _ _ => rfl))) (pc0 cd hr (by decide) (pa_cons (pv 1) (pa_cons (pe_ix ix_tup (pv 2) pe_int (fun _ _ => rfl)) pa_nil)))))))
      (pss_cons (ps_set (i := 3) scMaker.nd rfl (.inl rfl) pe_int)
      (pss_cons (ps_for PassesOwn.never rfl (pi_list (pv 0)) (pg_name (i := 2) scMaker.nd rfl (.inl rfl))
        (pss_one (ps_set (i := 3) scMaker.nd rfl (.inl rfl) (pc0 cd hr (by decide) (pa_cons (pv 3) (pa_cons (pe_op op_mulW (pe_ix ix_tup (pv 2) pe_int (fun _ _ => rfl)) (pe_op op_fdivG (pv 1) (pe_ix ix_tup (pv 2) pe_int (fun _ _ => rfl)))) pa_nil))))))
      (pss_one (ps_ret (pcX fo hr (by decide) (pa_cons (pv 1) (pa_cons (pv 3) pa_nil)))))))), ?_⟩
    have pick : ∀ {i : Nat} {y : V}, (rs.map V.ref)[i]? = some y → ∃ r e, y = .ref r ∧ es[i]? = some e ∧ FrT K H r e.1 e.2 ∧ Okb A e := fun {i y} hy => by
      rw [List.getElem?_map] at hy
      cases e : rs[i]? with
      | none =>
        rw [e] at hy
        cases hy
      | some r =>
        rw [e] at hy
        obtain ⟨x, hx, fx⟩ := fl.2 i r e
        exact ⟨r, x, (Option.some.inj hy).symm, hx, fx, ok x (List.mem_of_getElem? hx)⟩
    refine ⟨_, rfl, l, rfl, ⟨_, SqL.of hl⟩, for_list (K := K) (a := l) (xs := rs.map V.ref) (fun i σ H' => ∃ (B : Int) (y2 : Option V), σ = [some (.ref l), some (.int B), y2, none] ∧ H' = H ∧ 0 < B ∧ B.natAbs < 2 ^ (A * i + 1) ∧ ∀ e ∈ es.take i, e.2 ∣ B)
      ⟨1, none, rfl, rfl, by decide, by rw [Nat.mul_zero]; decide, fun e he => by rw [List.take_zero] at he; cases he⟩ (fun i σ H' _ hW => ?_) ?_ ?_⟩
    · obtain ⟨_, _, _, rfl, _⟩ := hW
      exact SqL.of hl
    · rintro i y σ H' hy ⟨B, y2, rfl, rfl, B0, Bl, Bd⟩
      obtain ⟨r, e, rfl, hei, fe, oke⟩ := pick hy
      have il : i < es.length := (List.getElem?_eq_some_iff.mp hei).1
      have ai : A * i + A ≤ A * es.length := by
        rw [← Nat.mul_succ]
        exact Nat.mul_le_mul_left A (by omega)
      obtain ⟨s0, s1, s2, s3⟩ := lcm_step B0 oke.1
      have b3 : B.natAbs < 2 ^ 3000 := sm_mono Bl (by omega)
      have d3 : e.2.natAbs < 2 ^ 3000 := sm_mono oke.2.2.1 (by omega)
      refine ⟨_, rfl, _, rfl, r, _, 1, _, rfl, rfl, fe.1, atI_nat (j := 1) rfl, B, e.2, rfl, rfl, wide_mul b3 d3 (by decide) (by decide) (by decide), ?_⟩
      refine ⟨_, rfl, _, rfl, r, _, 1, _, rfl, rfl, fe.1, atI_nat (j := 1) rfl, B, e.2, rfl, B * e.2, _, rfl, rfl, cdiv_ok (gcd_ne (Int.ne_of_gt oke.1)) (gcd_ltK (Int.ne_of_gt oke.1) d3) _, ?_⟩
      refine ⟨_, _, rfl, rfl, s0, Nat.lt_of_le_of_lt s3 ?_, fun x hx => ?_⟩
      · have z := sm_mul Bl oke.2.2.1
        have ee : A * i + 1 + A = A * (i + 1) + 1 := by rw [Nat.mul_succ]; omega
        rw [ee] at z
        exact z
      · rw [List.take_add_one, hei] at hx
        rcases List.mem_append.mp hx with z | z
        · exact Int.dvd_trans (Bd x z) s1
        · have z' : x = e := by simpa using z
          rw [z']
          exact s2
    · rintro σ H' ⟨B, y2, rfl, rfl, B0, Bl, Bd⟩
      rw [List.length_map, fl.1, List.take_length] at Bd
      rw [List.length_map, fl.1] at Bl
      have hd : ∀ e ∈ es, 0 < e.2 ∧ e.2 ∣ B := fun e he => ⟨(ok e he).1, Bd e he⟩
      have b3 : B.natAbs < 2 ^ 3000 := sm_mono Bl (by omega)
      refine ⟨_, rfl, l, rfl, ⟨_, SqL.of hl⟩, for_list (K := K) (a := l) (xs := rs.map V.ref) (fun i σ H'' => ∃ (y2 : Option V), σ = [some (.ref l), some (.int B), y2, some (.int ((gl B (es.take i) : Nat) : Int))] ∧ H'' = H')
        ⟨_, rfl, rfl⟩ (fun i σ H'' _ hW => ?_) ?_ ?_⟩
      · obtain ⟨_, _, rfl⟩ := hW
        exact SqL.of hl
      · rintro i y σ H'' hy ⟨y2, rfl, rfl⟩
        obtain ⟨r, e, rfl, hei, fe, oke⟩ := pick hy
        have dd := hd e (List.mem_of_getElem? hei)
        have d3 : e.2.natAbs < 2 ^ 3000 := sm_mono oke.2.2.1 (by omega)
        have n3 : e.1.natAbs < 2 ^ 3000 := sm_mono oke.2.1 (by omega)
        have dz : e.2 ≠ 0 := Int.ne_of_gt oke.1
        have q3 : (B.fdiv e.2).natAbs < 2 ^ 3000 := dv_lt dd.2 dz b3
        have ef : B.fdiv e.2 = B / e.2 := Int.fdiv_eq_ediv_of_nonneg _ (Int.le_of_lt oke.1)
        refine ⟨_, rfl, _, rfl, r, _, 0, _, rfl, rfl, fe.1, atI_nat (j := 0) rfl, _, rfl, _, rfl, r, _, 1, _, rfl, rfl, fe.1, atI_nat (j := 1) rfl, B, e.2, rfl, rfl, cdiv_ok dz d3 _, e.1, B.fdiv e.2, rfl, rfl, wide_mul n3 q3 (by decide) (by decide) (by decide), _, _, rfl, ?_⟩
        refine ⟨some (.ref r), ?_, rfl⟩
        have et : es.take (i + 1) = es.take i ++ [e] := by
          rw [List.take_add_one, hei]
          rfl
        rw [et, gl_snoc, ef]
        rfl
      · rintro σ H'' ⟨y2, rfl, rfl⟩
        rw [List.length_map, fl.1, List.take_length]
        have g0 := mk_gl B0 hd mk
        have gi : ((gl B es : Nat) : Int) ≠ 0 := by omega
        have ep := mk_pair B0 hd lo mk
        have e1 : fr1 B (gl B es : Int) = mp.1 := congrArg Prod.fst ep
        have e2 : fr2 B (gl B es : Int) = mp.2 := congrArg Prod.snd ep
        refine ⟨_, rfl, _, rfl, B, _, rfl, fun z => absurd z gi, fun _ => ⟨?_, ?_⟩⟩
        · -- the divisor divides each top over the bottom: it is no greater than one that isn't nought
          obtain ⟨e, he, ne⟩ : ∃ e ∈ es, e.1 * (B / e.2) ≠ 0 := Classical.byContradiction fun z => by
            refine g0 ?_
            have all : ∀ e ∈ es, e.1 * (B / e.2) = 0 := fun e he => Classical.byContradiction fun y => z ⟨e, he, y⟩
            have z0 := gl_most (B := B) (d := 0) _ es rfl fun e he => by rw [all e he]; exact Int.dvd_refl 0
            have := Int.zero_dvd.mp z0
            omega
          have dv := gl_dvd (B := B) _ es rfl e he
          have le := Nat.le_of_dvd (Int.natAbs_pos.mpr ne) (Int.natAbs_dvd_natAbs.mpr dv)
          have dd := hd e he
          have oke := ok e he
          have q3 : (B.fdiv e.2).natAbs < 2 ^ 3000 := dv_lt dd.2 (Int.ne_of_gt oke.1) b3
          rw [Int.fdiv_eq_ediv_of_nonneg _ (Int.le_of_lt oke.1)] at q3
          refine Nat.lt_of_le_of_lt le (sm_mono (sm_mul oke.2.1 q3) ?_)
          omega
        · rw [e1, e2]
          exact q
end
end SS
namespace SS
open PySem PySem.Spec PyProof.Rows L2
theorem two_okb {K : PySem.W.Frag} {H : Hp} {p q : Addr} {u v : Int × Int} {A B : Nat} (h1 : FrT K H p u.1 u.2) (h2 : FrT K H q v.1 v.2) (k1 : Okb A u) (k2 : Okb B v) (l1 : A ≤ 3000) (l2 : B ≤ 3000) : Two K H [.ref p, .ref q] u.1 u.2 v.1 v.2 :=
  ⟨p, q, rfl, h1, h2, k1.1, k2.1, sm_mono k1.2.1 l1, sm_mono k1.2.2.1 l1, sm_mono k2.2.1 l2, sm_mono k2.2.2.1 l2, k1.2.2.2, k2.2.2.2⟩
end SS
namespace SS
open PySem PySem.Spec PyProof.Rows L2
/-- a sort turned about -/
def turnT (s : Str) : Str := if s = "most" then "least" else if s = "least" then "most" else if s = "below" then "above" else if s = "above" then "below" else s
def turnS (nb : Int × Int) (s : Str) : Str := if nb.1 < 0 then turnT s else s
theorem sorts5 {s : Str} (h : s ∈ sorts) : s = "is" ∨ s = "most" ∨ s = "least" ∨ s = "below" ∨ s = "above" := by
  simpa [sorts] using h
theorem turnT_mem {s : Str} (h : s ∈ sorts) : turnT s ∈ sorts := by
  rcases sorts5 h with rfl | rfl | rfl | rfl | rfl <;> decide
theorem turnS_mem {nb : Int × Int} {s : Str} (h : s ∈ sorts) : turnS nb s ∈ sorts := by
  unfold turnS
  split
  · exact turnT_mem h
  · exact h
/-- the dict of the turned sorts, written in the module -/
def Turned (K : PySem.W.Frag) (w : World) (aT : Addr) : Prop := ∀ s ∈ sorts, KDct K w aT s (.str (turnT s))
theorem turned_mk {K : PySem.W.Frag} {w : World} {aT : Addr} {es : Array DictEntry} {n : Nat} {t0 t1 t2 t3 t4 : Tok} (hl : K.lookup aT = some ⟨.type "dict", none, .dict es n, #[]⟩) (hk : PySem.W.KeysLit w.params es.toList)
    (h0 : PySem.W.nsIn K aT "is" = some (some (.str "is" t0))) (h1 : PySem.W.nsIn K aT "most" = some (some (.str "least" t1))) (h2 : PySem.W.nsIn K aT "least" = some (some (.str "most" t2)))
    (h3 : PySem.W.nsIn K aT "below" = some (some (.str "above" t3))) (h4 : PySem.W.nsIn K aT "above" = some (some (.str "below" t4))) : Turned K w aT := fun s hs => by
  rcases sorts5 hs with rfl | rfl | rfl | rfl | rfl
  · exact ⟨es, n, _, hl, hk, h0, ⟨_, rfl⟩⟩
  · exact ⟨es, n, _, hl, hk, h1, ⟨_, rfl⟩⟩
  · exact ⟨es, n, _, hl, hk, h2, ⟨_, rfl⟩⟩
  · exact ⟨es, n, _, hl, hk, h3, ⟨_, rfl⟩⟩
  · exact ⟨es, n, _, hl, hk, h4, ⟨_, rfl⟩⟩
section
variable {P : Program} {w : World} {K : PySem.W.Frag} {mg : Str → Option Value} {base : Heap}
/-- row_times: C is NoNumber -/
def spRowTimes (K : PySem.W.Frag) (C : Addr) : Sp := fun vs H Q E => ∃ (r a n : Addr) (kvs : List (Key × V)) (f : Key → Int × Int) (srt : Str) (num nb : Int × Int) (m A B : Nat), vs = [.ref r, .ref n] ∧ RowT K m H r a kvs f srt num ∧ FrT K H n nb.1 nb.2 ∧
  (∀ k, Okb A (f k)) ∧ Okb A num ∧ Okb B nb ∧ m ≤ 400 ∧ A ≤ 2900 ∧ B ≤ 2900 ∧ (nb.1 = 0 → E (.ref C) none H) ∧
  (nb.1 ≠ 0 → ∀ H' r' a' ks, Same H H' → H r' = none → H a' = none → RowT K m H' r' a' ks (fun k => ftimes (f k) nb) (turnS nb srt) (ftimes num nb) → Q (.ref r') H')
theorem scRowTimes : FnScope ["row", "number", "one", "sort", "bound", "told_sort"] ["row", "number"] (defScope sRowTimes) := ⟨rfl, rfl, rfl, by decide +kernel, rfl, by decide +kernel, by decide +kernel⟩
theorem ok_rowtimes {f' aN aT C : Addr} {fd : FuncData} (F : Fun K "row_times" "row_times" sRowTimes f' fd) (T : ExT K mg "NoNumber" C) (gN : mg "NOUGHT" = some (.ref aN)) (hN : ∀ H, FrT K H aN 0 1) (gT : mg "TURNED_SORTS" = some (.ref aT)) (hT : Turned K w aT)
    (st : Cl P w K mg base CX0 4 "sum_times" (spSumTimes K) []) (tm : Cl P w K mg base CX0 3 "times" (spTimes K) []) : FnOk P w K mg base (L2.CX P w) 5 f' fd ["row", "number"] (spRowTimes K C) := by
  refine F.okX scRowTimes (fun vs H Q E h => ?_) (fun cdv A' outer s H vs Q E hr h => ?_)
  · obtain ⟨_, _, _, _, _, _, _, _, _, _, _, rfl, _⟩ := h
    rfl
  · obtain ⟨r, a, n, kvs, f, srt, num, nb, m, A, B, rfl, ⟨pn, h1, da, h3, h4⟩, fn, okf, okn, okb, hm, hA, hB, k0, k⟩ := h
    refine ⟨_, pss_cons (ps_if (pt_cmpR (op_eqD hr.units) (pv 1) (pe_glob (v := .ref aN) (by rfl) gN rfl) (nomark _))
        (pss_one (ps_raise rfl (takes_of rfl rfl rfl rfl) (pmk_own PySem.F.excBase_ValueError T.xC T.gC T.kC (raises_own T.bC T.tC) (by exact rfl)))) pss_nil)
      (pss_cons (ps_asg (pv 0) (pg_tup rfl (pgs_cons (pg_name (i := 2) scRowTimes.nd rfl (.inl rfl)) (pgs_cons (pg_name (i := 3) scRowTimes.nd rfl (.inl rfl)) (pgs_cons (pg_name (i := 4) scRowTimes.nd rfl (.inl rfl)) pgs_nil)))))
      (pss_cons (ps_set (i := 5) scRowTimes.nd rfl (.inl rfl) (pe_ifExp (pt_cmpR op_lt (pe_ix ix_tup (pv 1) pe_int (fun _ _ => rfl)) pe_int (nomark _)) (pe_ix ix_kdict (pe_glob (v := .ref aT) (by rfl) gT rfl) (pv 3) (fun _ _ => rfl)) (pv 3)))
      (pss_one (ps_ret (pe_tup (pa_cons (pc0 st hr (by decide) (pa_cons (pv 2) (pa_cons (pv 1) pa_nil))) (pa_cons (pv 5) (pa_cons (pc0 tm hr (by decide) (pa_cons (pv 4) (pa_cons (pv 1) pa_nil))) pa_nil)))))))), ?_⟩
    refine ⟨_, rfl, .tuple [.int nb.1, .int nb.2], .tuple [.int 0, .int 1], .tup fn.1 (.cons (.int _) (.cons (.int _) .nil)), .tup (hN _).1 (.cons (.int _) (.cons (.int _) .nil)), rfl, rfl, _, rfl, ?_⟩
    rw [show (PyData.eqv (.tuple [.int nb.1, .int nb.2]) (.tuple [.int 0, .int 1])) = (nb.1 == 0 && nb.2 == 1) from eqv_nought ..]
    refine ite2 (fun e => ?_) (fun e => ?_)
    · rw [Bool.and_eq_true, beq_iff_eq] at e
      exact k0 e.1
    · have nz : nb.1 ≠ 0 := fun z => by
        have z2 := okb_top0 okb z
        rw [z2] at e
        exact e rfl
      have k := k nz
      refine ⟨_, rfl, r, _, rfl, SqT.of h1, rfl, _, _, rfl, _, _, rfl, _, _, rfl, rfl, ?_⟩
      refine' mid (C := _) (Inv := fun σ H' => σ = [some (.ref r), some (.ref n), some (.ref a), some (.str srt), some (.ref pn), some (.str (turnS nb srt))] ∧ H' = H) (fun key => ?main) ?cont
      case main =>
        refine ⟨_, rfl, n, _, 0, _, rfl, rfl, fn.1, atI_nat (j := 0) rfl, nb.1, 0, rfl, rfl, _, rfl, ite2 (fun c => ?_) (fun c => ?_)⟩
        · have c' : nb.1 < 0 := of_decide_eq_true c
          have et : turnS nb srt = turnT srt := if_pos c'
          refine ⟨_, rfl, aT, srt, .str (turnT srt), rfl, rfl, hT srt h4, ?_⟩
          exact key _ _ ⟨by rw [et], rfl⟩
        · have c' : ¬ nb.1 < 0 := fun z => c (decide_eq_true z)
          have et : turnS nb srt = srt := if_neg c'
          exact ⟨_, rfl, key _ _ ⟨by rw [et]; rfl, rfl⟩⟩
      case cont =>
        rintro σ H' ⟨rfl, rfl⟩
        refine ⟨_, rfl, _, rfl, a, n, kvs, f, nb, m, A, B, rfl, da, fn, okf, okb, hm, hA, hB, fun H1 c1 k1 s1 n1 d1 => ?_⟩
        refine ⟨_, rfl, _, rfl, _, rfl, num.1, num.2, nb.1, nb.2, two_okb (h3.new s1) (fn.new s1) okn okb (by omega) (by omega), fun r2 n2 => ?_⟩
        have s2 := same_new (o := .tup [.int (ftimes num nb).1, .int (ftimes num nb).2]) n2
        refine ⟨by show 3 ≤ sizeLine; decide, fun R nR => ?_⟩
        have s3 := same_new (o := .tup [.ref c1, .str (turnS nb srt), .ref r2]) nR
        refine k _ R c1 k1 ((s1.trans s2).trans s3) ((s1.trans s2).free nR) n1 ⟨r2, upd_same, (d1.same s2).same s3, FrT.of (s3 _ _ upd_same), turnS_mem h4⟩
end
end SS
namespace SS
open PySem PySem.Spec PyProof.Rows L2
def refOf : V → Addr
  | .ref r => r
  | _ => 0
theorem dm_refs {K : PySem.W.Frag} {z : Prop} {m : Nat} {H : Hp} {a : Addr} {kvs : List (Key × V)} {f : Key → Int × Int} (h : DM z m H a kvs f) : kvs.map (·.2) = (kvs.map fun p => refOf p.2).map V.ref ∧ FL K H (kvs.map fun p => refOf p.2) (kvs.map fun p => f p.1) := by
  refine ⟨?_, by rw [List.length_map, List.length_map], fun i r hi => ?_⟩
  · rw [List.map_map]
    refine List.map_congr_left fun p hp => ?_
    obtain ⟨_, ⟨r, e, _⟩, _⟩ := h.2.2.2.1 p hp
    show p.2 = .ref (refOf p.2)
    rw [e]
    rfl
  · rw [List.getElem?_map] at hi
    cases e : kvs[i]? with
    | none =>
      rw [e] at hi
      cases hi
    | some p =>
      rw [e] at hi
      have hr : refOf p.2 = r := Option.some.inj hi
      obtain ⟨_, ⟨r', e2, e3⟩, _⟩ := h.2.2.2.1 p (List.mem_of_getElem? e)
      refine ⟨f p.1, by rw [List.getElem?_map, e]; rfl, ?_⟩
      rw [← hr, e2]
      exact FrT.of e3
theorem FL.snoc {K : PySem.W.Frag} {H : Hp} {rs : List Addr} {es : List (Int × Int)} {r : Addr} {e : Int × Int} (h : FL K H rs es) (hr : FrT K H r e.1 e.2) : FL K H (rs ++ [r]) (es ++ [e]) := by
  refine ⟨by rw [List.length_append, List.length_append, h.1]; rfl, fun i x hx => ?_⟩
  rcases Nat.lt_or_ge i rs.length with c | c
  · rw [List.getElem?_append_left c] at hx
    obtain ⟨y, hy, fy⟩ := h.2 i x hx
    refine ⟨y, ?_, fy⟩
    rw [List.getElem?_append_left (by rw [← h.1]; exact c)]
    exact hy
  · rw [List.getElem?_append_right c] at hx
    obtain ⟨j, hj⟩ : ∃ j, i - rs.length = j := ⟨_, rfl⟩
    rw [hj] at hx
    cases j with
    | succ j => cases hx
    | zero =>
      cases hx
      refine ⟨e, ?_, hr⟩
      rw [List.getElem?_append_right (by rw [← h.1]; exact c), ← h.1, hj]
      rfl
theorem FL.same {K : PySem.W.Frag} {H H' : Hp} {rs : List Addr} {es : List (Int × Int)} (h : FL K H rs es) (s : Same H H') : FL K H' rs es := ⟨h.1, fun i r hi => by
  obtain ⟨e, he, fe⟩ := h.2 i r hi
  exact ⟨e, he, fe.new s⟩⟩
theorem dm_nil {z : Prop} {m : Nat} {H : Hp} {a : Addr} {f : Key → Int × Int} (h : H a = some (.dK [])) (hf : ∀ k, f k = (0, 1)) : DM z m H a [] f :=
  ⟨h, List.nodup_nil, Nat.zero_le _, fun _ hp => (List.not_mem_nil hp).elim, fun k _ => hf k⟩
/-- the least of the names of a sum -/
def Least (kvs : List (Key × V)) (lk : Str) : Prop := lk ∈ (kvs.map fun p => nmOf p.1) ∧ ∀ j ∈ (kvs.map fun p => nmOf p.1), leS lk j
/-- all numbers of a row -/
def allN (kvs : List (Key × V)) (f : Key → Int × Int) (num : Int × Int) : List (Int × Int) := (kvs.map fun p => f p.1) ++ [num]
def signed (mp x : Int × Int) : Int × Int := if 0 < x.1 then mp else ftimes mp (-1, 1)
theorem keysT {z : Prop} {m : Nat} {H : Hp} {a : Addr} {kvs : List (Key × V)} {f : Key → Int × Int} (h : DM z m H a kvs f) : kvs.map (·.1) = (kvs.map fun p => nmOf p.1).map Sum.inr := by
  rw [List.map_map]
  refine List.map_congr_left fun p hp => ?_
  obtain ⟨⟨x, e, _⟩, _⟩ := h.2.2.2.1 p hp
  show p.1 = .inr (nmOf p.1)
  rw [e]
  rfl
/-- the same, of a sum as a function -/
def MkF (m : Rat) (f : Key → Int × Int) (num : Int × Int) : Prop := 0 < m ∧ ((∀ k, ∃ z : Int, toQ (f k) * m = (z : Rat)) ∧ ∃ z : Int, toQ num * m = (z : Rat)) ∧ ∀ d : Nat, (∀ k, ∃ z : Int, toQ (f k) * m = ((((d : Nat) : Int) * z : Int) : Rat)) → (∃ z : Int, toQ num * m = ((((d : Nat) : Int) * z : Int) : Rat)) → d = 1
def LeastF (f : Key → Int × Int) (lk : Str) : Prop := (f (.inr lk)).1 ≠ 0 ∧ ∀ j, (f (.inr j)).1 ≠ 0 → leS lk j
theorem least_of {m : Nat} {H : Hp} {a : Addr} {kvs : List (Key × V)} {f : Key → Int × Int} {lk : Str} (h : DM True m H a kvs f) (l1 : lk ∈ (kvs.map fun p => nmOf p.1)) (l2 : ∀ j ∈ (kvs.map fun p => nmOf p.1), leS lk j) : LeastF f lk := by
  have key : ∀ j, .inr j ∈ kvs.map (·.1) → j ∈ (kvs.map fun p => nmOf p.1) := fun j hj => by
    obtain ⟨p, hp, e⟩ := List.mem_map.mp hj
    refine List.mem_map.mpr ⟨p, hp, ?_⟩
    rw [e]
    rfl
  refine ⟨?_, fun j hj => ?_⟩
  · obtain ⟨p, hp, e⟩ := List.mem_map.mp l1
    obtain ⟨⟨x, e1, _⟩, _, nz⟩ := h.2.2.2.1 p hp
    rw [e1] at e nz
    have e' : x = lk := e
    rw [← e']
    exact nz trivial
  · cases e : valV kvs (.inr j) with
    | none =>
      rw [h.2.2.2.2 _ e] at hj
      exact absurd rfl hj
    | some v => exact l2 j (key j (valV_in e))
theorem mkF_list {z : Prop} {n : Nat} {H : Hp} {a : Addr} {kvs : List (Key × V)} {f : Key → Int × Int} {num : Int × Int} {m : Rat} (h : DM z n H a kvs f) (k : MkF m f num) : IsMk m ((allN kvs f num).map toQ) := by
  refine ⟨k.1, fun q hq => ?_, fun d hd => k.2.2 d (fun x => ?_) (hd _ (List.mem_map.mpr ⟨num, List.mem_append.mpr (.inr (List.mem_singleton.mpr rfl)), rfl⟩))⟩
  · obtain ⟨e, he, rfl⟩ := List.mem_map.mp hq
    rcases List.mem_append.mp he with c | c
    · obtain ⟨p, _, rfl⟩ := List.mem_map.mp c
      exact k.2.1.1 p.1
    · rw [List.mem_singleton.mp c]
      exact k.2.1.2
  · cases e : valV kvs x with
    | none =>
      refine ⟨0, ?_⟩
      rw [h.2.2.2.2 _ e, toQ_zero, Rat.zero_mul, Int.mul_zero]
      rfl
    | some v =>
      obtain ⟨p, hp, e1⟩ := List.mem_map.mp (valV_in e)
      have e2 : p.1 = x := e1
      rw [← e2]
      exact hd _ (List.mem_map.mpr ⟨f p.1, List.mem_append.mpr (.inl (List.mem_map.mpr ⟨p, hp, rfl⟩)), rfl⟩)
theorem mkF_of {z : Prop} {n : Nat} {H : Hp} {a : Addr} {kvs : List (Key × V)} {f : Key → Int × Int} {num : Int × Int} {m : Rat} (h : DM z n H a kvs f) (k : IsMk m ((allN kvs f num).map toQ)) : MkF m f num := by
  have ent : ∀ x, f x = (0, 1) ∨ toQ (f x) ∈ (allN kvs f num).map toQ := fun x => by
    cases e : valV kvs x with
    | none => exact .inl (h.2.2.2.2 _ e)
    | some v =>
      obtain ⟨p, hp, e1⟩ := List.mem_map.mp (valV_in e)
      have e2 : p.1 = x := e1
      rw [← e2]
      exact .inr (List.mem_map.mpr ⟨f p.1, List.mem_append.mpr (.inl (List.mem_map.mpr ⟨p, hp, rfl⟩)), rfl⟩)
  have last : toQ num ∈ (allN kvs f num).map toQ := List.mem_map.mpr ⟨num, List.mem_append.mpr (.inr (List.mem_singleton.mpr rfl)), rfl⟩
  refine ⟨k.1, ⟨fun x => ?_, k.2.1 _ last⟩, fun d h1 h2 => k.2.2 d fun q hq => ?_⟩
  · rcases ent x with e | e
    · refine ⟨0, ?_⟩
      rw [e, toQ_zero, Rat.zero_mul]
      rfl
    · exact k.2.1 _ e
  · obtain ⟨e, he, rfl⟩ := List.mem_map.mp hq
    rcases List.mem_append.mp he with c | c
    · obtain ⟨p, _, rfl⟩ := List.mem_map.mp c
      exact h1 p.1
    · rw [List.mem_singleton.mp c]
      exact h2
section
variable {P : Program} {w : World} {K : PySem.W.Frag} {mg : Str → Option Value} {base : Heap}
def spPlain (K : PySem.W.Frag) : Sp := fun vs H Q _ => ∃ (r a : Addr) (kvs : List (Key × V)) (f : Key → Int × Int) (srt : Str) (num : Int × Int) (m A : Nat), vs = [.ref r] ∧ RowT K m H r a kvs f srt num ∧
  (∀ k, Okb A (f k)) ∧ Okb A num ∧ m ≤ 10 ∧ A * (m + 1) ≤ 2950 ∧ A ≤ 1400 ∧
  (kvs = [] → ∀ H' r' a', Same H H' → H r' = none → H a' = none → RowT K m H' r' a' [] (fun _ => (0, 1)) "is" (if keptB srt 0 (toQ num) then (0, 1) else (1, 1)) → Q (.ref r') H') ∧
  (kvs ≠ [] → ∃ (mp : Int × Int) (B : Nat), Lo mp ∧ Okb B mp ∧ B ≤ 2800 ∧ MkF (toQ mp) f num ∧
    ∀ lk, LeastF f lk → ∀ H' r' a' ks, Same H H' → H r' = none → H a' = none → RowT K m H' r' a' ks (fun k => ftimes (f k) (signed mp (f (.inr lk)))) (turnS (signed mp (f (.inr lk))) srt) (ftimes num (signed mp (f (.inr lk)))) → Q (.ref r') H')
theorem scPlain : FnScope ["row", "one", "sort", "bound", "maker", "unknown"] ["row"] (defScope sPlain) := ⟨rfl, rfl, rfl, by decide +kernel, rfl, by decide +kernel, by decide +kernel⟩
theorem okb_mone : Okb 1 ((-1, 1) : Int × Int) := ⟨by decide, by decide, by decide, by decide⟩
theorem ok_plain {f' aN aO aM C : Addr} {fd : FuncData} (F : Fun K "plain_row" "plain_row" sPlain f' fd) (mm : mg "min" = none) (gN : mg "NOUGHT" = some (.ref aN)) (hN : ∀ H, FrT K H aN 0 1) (gO : mg "ONE" = some (.ref aO)) (hO : ∀ H, FrT K H aO 1 1) (gM : mg "MINUS_ONE" = some (.ref aM)) (hM : ∀ H, FrT K H aM (-1) 1)
    (ke : Cl P w K mg base CX0 6 "keeps" (spKeeps K) []) (wm : Cl P w K mg base CX0 3 "whole_maker" (spMaker K) []) (rt : Cl P w K mg base (L2.CX P w) 5 "row_times" (spRowTimes K C) []) (tm : Cl P w K mg base CX0 3 "times" (spTimes K) []) : FnOk P w K mg base (L2.CX P w) 7 f' fd ["row"] (spPlain K) := by
  refine F.okX scPlain (fun vs H Q E h => ?_) (fun cdv A' outer s H vs Q E hr h => ?_)
  · obtain ⟨_, _, _, _, _, _, _, _, rfl, _⟩ := h
    rfl
  · obtain ⟨r, a, kvs, f, srt, num, m, A, rfl, ⟨pn, h1, da, h3, h4⟩, okf, okn, hm, hA, A1, k0, k⟩ := h
    have hu := hu_of hr
    refine ⟨_, pss_cons (ps_asg (pv 0) (pg_tup rfl (pgs_cons (pg_name (i := 1) scPlain.nd rfl (.inr rfl)) (pgs_cons (pg_name (i := 2) scPlain.nd rfl (.inl rfl)) (pgs_cons (pg_name (i := 3) scPlain.nd rfl (.inl rfl)) pgs_nil)))))
      (pss_cons (ps_if (pt_not (pt_truth (pv 1) (by intro _; rfl))) (pss_one (ps_ret (pe_tup (pa_cons pe_dnewK (pa_cons pe_str (pa_cons (pe_ifExp (pt_val (pc0 ke hr (by decide) (pa_cons (pv 0) (pa_cons pe_dnewK pa_nil)))) (pe_glob (v := .ref aN) (by rfl) gN rfl) (pe_glob (v := .ref aO) (by rfl) gO rfl)) pa_nil)))))) pss_nil)
      (pss_cons (ps_set (i := 4) scPlain.nd rfl (.inl rfl) (pc0 wm hr (by decide) (pa_cons (pe_op op_cat (pe_lock (pe_lc (own := [("unknown", 5)]) (g := gName 5) (tt := tYes) rfl scPlain.nd (pi_keys (pv 1)) (blkOk_by (by rfl)) (fun _ _ _ _ _ => pg_name (i := 5) scPlain.nd rfl (Or.inl rfl)) (fun _ _ _ _ _ => pts_nil)
          (fun _ _ _ _ _ => pe_dget hu (pv 1) (pv 5) (fun _ _ => rfl)))) (pe_lst (pa_cons (pv 3) pa_nil))) pa_nil)))
      (pss_one (ps_ret (pcX rt hr (by decide) (pa_cons (pv 0) (pa_cons (pe_ifExp (pt_cmpR op_gt (pe_ix ix_tup (pe_dget hu (pv 1) (pe_callB (cr_minT rfl) (by rfl) mm boot_min (pa_cons (pv 1) pa_nil)) (fun _ _ => rfl)) pe_int (fun _ _ => rfl)) pe_int (nomark _)) (pv 4) (pc0 tm hr (by decide) (pa_cons (pv 4) (pa_cons (pe_glob (v := .ref aM) (by rfl) gM rfl) pa_nil)))) pa_nil))))))), ?_⟩
    refine ⟨_, rfl, r, _, rfl, SqT.of h1, rfl, _, _, rfl, _, _, rfl, _, _, rfl, rfl, ?_⟩
    refine ⟨_, rfl, _, .inr (.inr ⟨kvs, da.1, rfl⟩), ?_⟩
    by_cases ek : kvs = []
    · subst ek
      refine iteT ?_
      have k0 := k0 rfl
      have fz : ∀ x, f x = (0, 1) := fun x => da.2.2.2.2 x rfl
      intro D nD
      have sD := same_new (o := .dK []) nD
      have hD := upd_same (H := H) (a := D) (o := .dK [])
      refine ⟨_, rfl, fun D2 nD2 => ?_⟩
      have sD2 := same_new (o := .dK []) nD2
      have S2 := sD.trans sD2
      have a2 : a ≠ D2 := ne_of_none (sD _ _ da.1) nD2
      have dE : DM True 0 (upd (upd H D (.dK [])) D2 (.dK [])) D2 [] (fun _ => (0, 1)) := dm_nil upd_same fun _ => rfl
      have w0 : toQ (wof f (fun _ => (0, 1)) (([] : List (Key × V)).map (·.1))) = 0 := toQ_zero
      refine ⟨r, a, D2, pn, srt, [], [], f, fun _ => (0, 1), num, True, True, 0, 0, 1, 1, rfl, S2 _ _ h1, dm_nil (S2 _ _ da.1) fz, dE, h3.new S2, h4, fun x => by rw [fz x]; exact okb_zero 0, fun _ => okb_zero 0, okn.mono (by omega), by decide, a2, fun H3 s3 => ⟨_, rfl, ?_⟩⟩
      rw [w0]
      refine ite2 (fun c => ?_) (fun c => ?_)
      · refine ⟨by show 3 ≤ sizeLine; decide, fun R nR => ?_⟩
        have sR := same_new (o := .tup [.ref D, .str "is", .ref aN]) nR
        have S3 := S2.trans s3
        refine k0 _ R D (S3.trans sR) (S3.free nR) nD ⟨aN, upd_same, dm_nil (sR _ _ (s3 _ _ (sD2 _ _ hD))) fun _ => rfl, ?_, by decide⟩
        rw [if_pos c]
        exact hN _
      · refine ⟨by show 3 ≤ sizeLine; decide, fun R nR => ?_⟩
        have sR := same_new (o := .tup [.ref D, .str "is", .ref aO]) nR
        have S3 := S2.trans s3
        refine k0 _ R D (S3.trans sR) (S3.free nR) nD ⟨aO, upd_same, dm_nil (sR _ _ (s3 _ _ (sD2 _ _ hD))) fun _ => rfl, ?_, by decide⟩
        rw [if_neg c]
        exact hO _
    · obtain ⟨mp, B, lo, okm, hB, mkf, k⟩ := k ek
      have mk := mkF_list da mkf
      have iz : (!kvs.isEmpty) = true := by
        cases kvs with
        | nil => exact absurd rfl ek
        | cons _ _ => rfl
      rw [iz]
      refine iteF ?_
      refine ⟨a, .dK kvs, da.1, trivial, fun od => ⟨_, rfl, a, od, rfl, .inl ⟨kvs, upd_same, fun D nD => ?_⟩⟩⟩
      have nDH : H D = none := by
        cases e : H D with
        | none => rfl
        | some o =>
          by_cases c : D = a
          · rw [c, upd_same] at nD
            cases nD
          · rw [upd_ne c, e] at nD
            cases nD
      have aD : a ≠ D := ne_of_none da.1 nDH
      refine lc_it walk_keys (fun i H' => H' D = some (.lst ((kvs.take i).map (·.2))) ∧ H' a = some (.frz od (.dK kvs)) ∧ ∀ x o, x ≠ a → x ≠ D → H x = some o → H' x = some o)
        ⟨upd_same, by rw [upd_ne aD]; exact upd_same, fun x o n1 n2 e => by rw [upd_ne n2, upd_ne n1]; exact e⟩ (fun _ _ _ hW => hW.2.1) ?_ ?_
      · rintro i y H2 H' hi ⟨w1, w2, w3⟩ ⟨rfl, key, v, hkv, rfl⟩
        obtain ⟨⟨nx, e1, okx⟩, ⟨rv, e2, e3⟩, _⟩ := da.2.2.2.1 (key, v) (List.mem_of_getElem? hkv)
        have e2' : v = .ref rv := e2
        have e1' : key = .inr nx := e1
        subst e2' e1'
        have ev : valV kvs (.inr nx) = some (.ref rv) := val_nodup da.2.1 (.inr nx, .ref rv) (List.mem_of_getElem? hkv)
        have dg : DGet H' a (kV (.inr nx)) (some (.ref rv)) := .inl ⟨kvs, .inr nx, .inr ⟨od, w2⟩, rfl, ev.symm⟩
        refine ⟨rfl, _, rfl, _, rfl, a, _, rfl, dg, _, w1, ?_, ?_, ?_, ?_⟩
        · rw [List.length_map, List.length_take]
          exact small1000 (by have := da.2.2.1; omega)
        · rw [upd_same, List.take_add_one, hkv, List.map_append]
          rfl
        · rw [upd_ne aD]
          exact w2
        · intro x o n1 n2 e
          rw [upd_ne n2]
          exact w3 x o n1 n2 e
      · rintro H' ⟨w1, w2, w3⟩
        rw [List.take_length] at w1
        refine ⟨w2, ?_⟩
        have S1 : Same H (upd H' a (.dK kvs)) := fun x o e => by
          by_cases c : x = a
          · subst c
            rw [upd_same, ← da.1]
            exact e
          · rw [upd_ne c]
            exact w3 x o c (ne_of_none e nDH) e
        have w4 : (upd H' a (.dK kvs)) D = some (.lst (kvs.map (·.2))) := by
          rw [upd_ne aD.symm]
          exact w1
        clear w1 w2 w3
        generalize upd H' a (.dK kvs) = H1 at S1 w4
        refine ⟨_, rfl, by show 1 ≤ sizeLine; decide, fun L nL => ?_⟩
        have sL := same_new (o := .lst [.ref pn]) nL
        refine ⟨D, L, _, _, rfl, rfl, sL _ _ w4, upd_same, ?_, fun p np => ?_⟩
        · rw [List.length_map]
          have := da.2.2.1
          exact small1000 (by omega)
        have sp := same_new (o := .lst (kvs.map (·.2) ++ [.ref pn])) np
        have S3 := (S1.trans sL).trans sp
        have hp : (upd (upd H1 L (.lst [.ref pn])) p (.lst (kvs.map (·.2) ++ [.ref pn]))) p = some (.lst (kvs.map (·.2) ++ [.ref pn])) := upd_same
        generalize upd (upd H1 L (.lst [.ref pn])) p (.lst (kvs.map (·.2) ++ [.ref pn])) = H3 at S3 hp
        obtain ⟨er, fl⟩ := dm_refs (K := K) da
        have ln : (allN kvs f num).length = kvs.length + 1 := by
          unfold allN
          rw [List.length_append, List.length_map]
          rfl
        have kl := da.2.2.1
        refine ⟨p, (kvs.map fun p => refOf p.2) ++ [pn], allN kvs f num, mp, A, rfl, by rw [hp, er, List.map_append]; rfl, (fl.same S3).snoc (h3.new S3), fun e he => ?_, ?_, by omega, by omega, lo, mk, fun x nx => ?_⟩
        · rcases List.mem_append.mp he with z | z
          · obtain ⟨q, _, rfl⟩ := List.mem_map.mp z
            exact okf _
          · rw [List.mem_singleton.mp z]
            exact okn
        · rw [ln]
          exact Nat.le_trans (Nat.mul_le_mul_left A (by omega)) hA
        have sx := same_new (o := .tup [.int mp.1, .int mp.2]) nx
        have S4 := S3.trans sx
        have fx : FrT K (upd H3 x (.tup [.int mp.1, .int mp.2])) x mp.1 mp.2 := FrT.of upd_same
        generalize upd H3 x (.tup [.int mp.1, .int mp.2]) = H4 at S4 fx
        have ne : (kvs.map fun p => nmOf p.1) ≠ [] := fun z => ek (List.map_eq_nil_iff.mp z)
        have mp0 : 0 < mp.1 := by
          have z := mk.1
          rw [← toQ_zero] at z
          have z2 := (toQ_lt_iff (a := (0, 1)) (b := mp) (by decide) lo.1).mpr z
          simpa using z2
        refine ⟨_, rfl, _, rfl, _, rfl, a, kvs, _, rfl, S4 _ _ da.1, keysT da, ne, fun lk l1 l2 => ?_⟩
        obtain ⟨pe, hpe, elk⟩ := List.mem_map.mp l1
        obtain ⟨⟨nx', e1, _⟩, ⟨rv, e2, e3⟩, _⟩ := da.2.2.2.1 pe hpe
        have ek' : pe.1 = .inr lk := by
          rw [e1] at elk ⊢
          exact congrArg Sum.inr elk
        have ev : valV kvs (.inr lk) = some (.ref rv) := by
          have z := val_nodup da.2.1 pe hpe
          rw [ek', e2] at z
          exact z
        rw [ek'] at e3
        have dg : DGet H4 a (kV (.inr lk)) (some (.ref rv)) := .inl ⟨kvs, .inr lk, .inl (S4 _ _ da.1), rfl, ev.symm⟩
        have RR : RowT K m H r a kvs f srt num := ⟨pn, h1, da, h3, h4⟩
        have okS : Okb (B + 1) (signed mp (f (.inr lk))) := by
          unfold signed
          split
          · exact okm.mono (by omega)
          · exact okb_times okm okb_mone
        have nz : (signed mp (f (.inr lk))).1 ≠ 0 := by
          have z : toQ (signed mp (f (.inr lk))) ≠ 0 := by
            have z0 := mk.1
            unfold signed
            split
            · grind
            · rw [toQ_times lo.1 (by decide)]
              have e : toQ (-1, 1) = -1 := by decide +kernel
              rw [e]
              grind
          intro c
          apply z
          unfold toQ
          rw [c, Rat.zero_divInt]
        refine ⟨a, _, rfl, dg, rv, _, 0, _, rfl, rfl, SqT.of (S4 _ _ e3), atI_nat (j := 0) rfl, (f (.inr lk)).1, 0, rfl, rfl, _, rfl, ite2 (fun c => ?_) (fun c => ?_)⟩
        · have c' : 0 < (f (.inr lk)).1 := of_decide_eq_true c
          have es : signed mp (f (.inr lk)) = mp := if_pos c'
          refine ⟨_, rfl, ?_⟩
          have FF : FrT K H4 x (signed mp (f (.inr lk))).1 (signed mp (f (.inr lk))).2 := by rw [es]; exact fx
          refine ⟨r, a, x, kvs, f, srt, num, signed mp (f (.inr lk)), m, A, B + 1, rfl, RR.same S4, FF, okf, okn, okS, by omega, by omega, by omega, fun z => absurd z nz, fun _ H' r' a' ks s' n' na' row => ?_⟩
          exact k lk (least_of da l1 l2) H' r' a' ks (S4.trans s') (S4.free n') (S4.free na') row
        · have c' : ¬ 0 < (f (.inr lk)).1 := fun z => c (decide_eq_true z)
          have es : signed mp (f (.inr lk)) = ftimes mp (-1, 1) := if_neg c'
          refine ⟨_, rfl, _, _, _, _, two_okb (v := (-1, 1)) fx (hM _) okm okb_mone (by omega) (by omega), fun y ny => ?_⟩
          have sy := same_new (o := .tup [.int (ftimes mp (-1, 1)).1, .int (ftimes mp (-1, 1)).2]) ny
          have S5 := S4.trans sy
          have FF : FrT K (upd H4 y (.tup [.int (ftimes mp (-1, 1)).1, .int (ftimes mp (-1, 1)).2])) y (signed mp (f (.inr lk))).1 (signed mp (f (.inr lk))).2 := by rw [es]; exact FrT.of upd_same
          refine ⟨r, a, y, kvs, f, srt, num, signed mp (f (.inr lk)), m, A, B + 1, rfl, RR.same S5, FF, okf, okn, okS, by omega, by omega, by omega, fun z => absurd z nz, fun _ H' r' a' ks s' n' na' row => ?_⟩
          exact k lk (least_of da l1 l2) H' r' a' ks (S5.trans s') (S5.free n') (S5.free na') row
end
end SS
namespace SS
open PySem PySem.Spec PyProof.Rows L2
theorem upd_back {H : Hp} {a : Addr} {o x : HO} (h : H a = some o) : upd (upd H a x) a o = H := by
  funext b
  by_cases c : b = a
  · rw [c, upd_same, h]
  · rw [upd_ne c, upd_ne c]
theorem ne_rowT {K : PySem.W.Frag} {H : Hp} {m m' : Nat} {r r' a a' : Addr} {kvs ls : List (Key × V)} {f : Key → Int × Int} {srt : Str} {num : Int × Int} (h : RowT K m H r a kvs f srt num) (h' : RowT K m' H r' a' ls f srt num) {Q : VK} (q : Q (.bl false) H) : rNeXT K (.ref r) (.ref r') H Q := by
  obtain ⟨n, h1, h2, h3, _⟩ := h
  obtain ⟨n', g1, g2, g3, _⟩ := h'
  exact ⟨4, r, r', _, _, by decide, rfl, rfl, SqT.of h1, SqT.of g1, .cons (xv_dm 1 h2 g2) (.cons (xv_str 3 srt) (.cons (xv_fr 2 h3 g3) .nil)), q⟩
def turnKV : List (Key × V) := [(.inr "is", .str "is"), (.inr "most", .str "least"), (.inr "least", .str "most"), (.inr "below", .str "above"), (.inr "above", .str "below")]
theorem turn_get {s : Str} (h : s ∈ sorts) : valV (mergeK [] turnKV) (.inr s) = some (.str (turnT s)) := by
  rcases sorts5 h with rfl | rfl | rfl | rfl | rfl <;> rfl
theorem isMk_mem {m : Rat} {L L' : List Rat} (e : ∀ q, q ∈ L ↔ q ∈ L') (h : IsMk m L) : IsMk m L' :=
  ⟨h.1, fun q hq => h.2.1 q ((e q).mpr hq), fun d hd => h.2.2 d fun q hq => hd q ((e q).mp hq)⟩
/-- the same numbers, the bound first -/
theorem mk_turn {m : Rat} {kvs : List (Key × V)} {f : Key → Int × Int} {num : Int × Int} (h : IsMk m ((allN kvs f num).map toQ)) : IsMk m ((num :: kvs.map fun p => f p.1).map toQ) := by
  refine isMk_mem (fun q => ?_) h
  unfold allN
  simp only [List.map_append, List.mem_append, List.map_cons, List.mem_cons, List.map_nil, List.not_mem_nil, or_false]
  exact Or.comm
theorem dv_mul {t b B : Int} (h0 : 0 < b) (h : b ∣ B) : (t * B).fdiv b = t * (B / b) := by
  obtain ⟨c, rfl⟩ := h
  rw [Int.mul_left_comm, Int.mul_fdiv_cancel_left _ (Int.ne_of_gt h0), Int.mul_ediv_cancel_left _ (Int.ne_of_gt h0)]
theorem gl_step {B x v : Int} {L : List (Int × Int)} {e : Int × Int} (h : x.natAbs = gl B L) (hv : v = e.1 * (B / e.2)) : Int.gcd x v = gl B (L ++ [e]) := by
  rw [gl_snoc, hv]
  unfold Int.gcd
  rw [h]
  rfl
theorem gl_one (B : Int) (e : Int × Int) : (e.1 * (B / e.2)).natAbs = gl B [e] := by
  show _ = Int.gcd ((0 : Nat) : Int) (e.1 * (B / e.2))
  unfold Int.gcd
  rw [Int.natAbs_natCast, Nat.gcd_zero_left]
theorem toQ_mone : toQ (-1, 1) = -1 := by decide +kernel
/-- the sign of the least number, put into the divisor -/
theorem mk_sign {B : Int} {L : List (Int × Int)} {mp x : Int × Int} (hB : 0 < B) (hd : ∀ q ∈ L, 0 < q.2 ∧ q.2 ∣ B) (lo : Lo mp) (h : IsMk (toQ mp) (L.map toQ)) (nz : x.1 ≠ 0) {u : Int} (hu : u = if x.1 < 0 then 0 - ((gl B L : Nat) : Int) else ((gl B L : Nat) : Int)) :
    (fr1 B u, fr2 B u) = signed mp x ∧ (u < 0 ↔ (signed mp x).1 < 0) ∧ u ≠ 0 ∧ u.natAbs = gl B L := by
  have g0 := mk_gl hB hd h
  have ep := mk_pair hB hd lo h
  have mp0 : 0 < mp.1 := by
    have z := h.1
    rw [← toQ_zero] at z
    have z2 := (toQ_lt_iff (a := (0, 1)) (b := mp) (by decide) lo.1).mpr z
    simpa using z2
  by_cases c : x.1 < 0
  · have es : signed mp x = ftimes mp (-1, 1) := if_neg (by omega)
    rw [if_pos c] at hu
    have u0 : u ≠ 0 := by omega
    have loM := lo_times (b := (-1, 1)) lo.1 (by decide)
    have e1 : (fr1 B u, fr2 B u) = ftimes mp (-1, 1) := by
      refine toQ_inj (lo_fr u0) loM ?_
      rw [toQ_fr u0, toQ_times lo.1 (by decide), toQ_mone, ← ep, toQ_fr (show ((gl B L : Nat) : Int) ≠ 0 by omega), hu, Rat.divInt_eq_div, Rat.divInt_eq_div]
      have e0 : ((0 - ((gl B L : Nat) : Int) : Int) : Rat) = -(((gl B L : Nat) : Int) : Rat) := by
        rw [Int.zero_sub, Rat.intCast_neg]
      rw [e0]
      have gq : (((gl B L : Nat) : Int) : Rat) ≠ 0 := fun z => g0 (by exact_mod_cast z)
      generalize (((gl B L : Nat) : Int) : Rat) = g at *
      grind
    refine ⟨by rw [e1, es], ?_, u0, by omega⟩
    rw [es]
    refine ⟨fun _ => ?_, fun _ => by omega⟩
    have z : toQ (ftimes mp (-1, 1)) < toQ (0, 1) := by
      rw [toQ_times lo.1 (by decide), toQ_mone, toQ_zero]
      have := h.1
      grind
    have z2 := (toQ_lt_iff (a := ftimes mp (-1, 1)) (b := (0, 1)) loM.1 (by decide)).mpr z
    simpa using z2
  · have es : signed mp x = mp := if_pos (by omega)
    rw [if_neg c] at hu
    refine ⟨by rw [hu, ep, es], ?_, by omega, by omega⟩
    rw [es]
    omega
end SS
namespace SS
open PySem PySem.Spec PyProof.Rows L2
section
variable {P : Program} {w : World} {K : PySem.W.Frag} {mg : Str → Option Value} {base : Heap}
def spLPlain (K : PySem.W.Frag) : Sp := fun vs H Q _ => ∃ (r a : Addr) (kvs : List (Key × V)) (f : Key → Int × Int) (srt : Str) (num : Int × Int) (m A : Nat), vs = [.ref r] ∧ RowT K m H r a kvs f srt num ∧
  (∀ k, Okb A (f k)) ∧ Okb A num ∧ m ≤ 10 ∧ A * (m + 2) ≤ 900 ∧
  (kvs = [] → ∀ H' r' a', Same H H' → H r' = none → H a' = none → RowT K m H' r' a' [] (fun _ => (0, 1)) "is" (if keptB srt 0 (toQ num) then (0, 1) else (1, 1)) → Q (.ref r') H') ∧
  (kvs ≠ [] → ∃ (mp : Int × Int) (B : Nat), Lo mp ∧ Okb B mp ∧ B ≤ 800 ∧ MkF (toQ mp) f num ∧
    ∀ lk, LeastF f lk → ∀ H' r' a' ks, Same H H' → H r' = none → H a' = none → RowT K m H' r' a' ks (fun k => ftimes (f k) (signed mp (f (.inr lk)))) (turnS (signed mp (f (.inr lk))) srt) (ftimes num (signed mp (f (.inr lk)))) → Q (.ref r') H')
theorem scLPlain : FnScope ["_law_row", "_law_under", "_law_key", "_law_least", "_law_above", "_law_sort"] ["_law_row"] (defScope sLPlain) := ⟨rfl, rfl, rfl, by decide +kernel, rfl, by decide +kernel, by decide +kernel⟩
theorem ok_lplain {f' : Addr} {fd : FuncData} (F : Fun K "_law_plain" "_law_plain" sLPlain f' fd) (mm : mg "min" = none) (mi : mg "int" = none)
    (ke : Cl P w K mg base CX0 5 "_law_keeps" (spKeeps K) []) (sh : Cl P w K mg base CX0 1 "_law_shared" spGcd []) (ad : Cl P w K mg base CX0 4 "_law_add" (spAdd K) []) (fc : Cl P w K mg base CX0 2 "_law_frac" spFrac []) (tm : Cl P w K mg base CX0 3 "_law_times" (spTimes K) []) : FnOk P w K mg base CX0 6 f' fd ["_law_row"] (spLPlain K) := by
  refine F.ok scLPlain (fun vs H Q E h => ?_) (fun cdv A' outer s H vs Q E hr h => ?_)
  · obtain ⟨_, _, _, _, _, _, _, _, rfl, _⟩ := h
    rfl
  · obtain ⟨r, a, kvs, f, srt, num, m, A, rfl, ⟨pn, h1, da, h3, h4⟩, okf, okn, hm, hA, k0, k⟩ := h
    have hu := hu_of hr
    refine ⟨_, pss_cons (ps_if (pt_cmpR (op_eq0 hr.units) (pe_ix ix_tup (pv 0) pe_int (fun _ _ => rfl)) pe_dnewK (nomark _))
        (pss_one (ps_ret (pe_tup (pa_cons pe_dnewK (pa_cons pe_str (pa_cons (pe_tup (pa_cons (pe_callTy call_int1 (by rfl) mi (by decide +kernel) (pa_cons (pe_not (pc0 ke hr (by decide) (pa_cons (pv 0) (pa_cons pe_dnewK pa_nil)))) pa_nil)) (pa_cons pe_int pa_nil))) pa_nil)))))) pss_nil)
      (pss_cons (ps_set (i := 1) scLPlain.nd rfl (.inl rfl) (pe_ix ix_tup (pe_ix ix_tup (pv 0) pe_int (fun _ _ => rfl)) pe_int (fun _ _ => rfl)))
      (pss_cons (ps_lock (ps_for PassesOwn.never rfl (pi_keys (pe_ix ix_tup (pv 0) pe_int (fun _ _ => rfl))) (pg_name (i := 2) scLPlain.nd rfl (.inl rfl))
        (pss_one (ps_set (i := 1) scLPlain.nd rfl (.inl rfl) (pe_op op_mulW (pv 1) (pe_ix ix_tup (pe_dget hu (pe_ix ix_tup (pv 0) pe_int (fun _ _ => rfl)) (pv 2) (fun _ _ => rfl)) pe_int (fun _ _ => rfl)))))))
      (pss_cons (ps_set (i := 3) scLPlain.nd rfl (.inl rfl) (pe_callB (cr_minT rfl) (by rfl) mm boot_min (pa_cons (pe_ix ix_tup (pv 0) pe_int (fun _ _ => rfl)) pa_nil)))
      (pss_cons (ps_set (i := 4) scLPlain.nd rfl (.inl rfl) (pe_op op_fdivG (pe_op op_mulW (pe_ix ix_tup (pe_ix ix_tup (pv 0) pe_int (fun _ _ => rfl)) pe_int (fun _ _ => rfl)) (pv 1)) (pe_ix ix_tup (pe_ix ix_tup (pv 0) pe_int (fun _ _ => rfl)) pe_int (fun _ _ => rfl))))
      (pss_cons (ps_lock (ps_for PassesOwn.never rfl (pi_keys (pe_ix ix_tup (pv 0) pe_int (fun _ _ => rfl))) (pg_name (i := 2) scLPlain.nd rfl (.inl rfl))
        (pss_one (ps_set (i := 4) scLPlain.nd rfl (.inl rfl) (pc0 sh hr (by decide) (pa_cons (pv 4) (pa_cons (pe_op op_fdivG (pe_op op_mulW (pe_ix ix_tup (pe_dget hu (pe_ix ix_tup (pv 0) pe_int (fun _ _ => rfl)) (pv 2) (fun _ _ => rfl)) pe_int (fun _ _ => rfl)) (pv 1))
          (pe_ix ix_tup (pe_dget hu (pe_ix ix_tup (pv 0) pe_int (fun _ _ => rfl)) (pv 2) (fun _ _ => rfl)) pe_int (fun _ _ => rfl))) pa_nil)))))))
      (pss_cons (ps_if (pt_cmpR op_lt (pe_ix ix_tup (pe_dget hu (pe_ix ix_tup (pv 0) pe_int (fun _ _ => rfl)) (pv 3) (fun _ _ => rfl)) pe_int (fun _ _ => rfl)) pe_int (nomark _)) (pss_one (ps_set (i := 4) scLPlain.nd rfl (.inl rfl) (pe_op op_sub pe_int (pv 4)))) pss_nil)
      (pss_cons (ps_set (i := 5) scLPlain.nd rfl (.inl rfl) (pe_ix ix_tup (pv 0) pe_int (fun _ _ => rfl)))
      (pss_cons (ps_if (pt_cmpR op_lt (pv 4) pe_int (nomark _)) (pss_one (ps_set (i := 5) scLPlain.nd rfl (.inl rfl)
        (pe_dget hu (pe_disp (pps_cons pe_str pe_str (pps_cons pe_str pe_str (pps_cons pe_str pe_str (pps_cons pe_str pe_str (pps_cons pe_str pe_str pps_nil))))) (by rfl) (by rfl) (fun z => by cases z) (by decide)) (pv 5) (fun _ _ => rfl)))) pss_nil)
      (pss_one (ps_ret (pe_tup (pa_cons (pc0 ad hr (by decide) (pa_cons pe_dnewK (pa_cons (pe_ix ix_tup (pv 0) pe_int (fun _ _ => rfl)) (pa_cons (pc0 fc hr (by decide) (pa_cons (pv 1) (pa_cons (pv 4) pa_nil))) pa_nil)))) (pa_cons (pv 5) (pa_cons (pc0 tm hr (by decide) (pa_cons (pe_ix ix_tup (pv 0) pe_int (fun _ _ => rfl)) (pa_cons (pc0 fc hr (by decide) (pa_cons (pv 1) (pa_cons (pv 4) pa_nil))) pa_nil))) pa_nil)))))))))))))), ?_⟩
    have A1 : A ≤ 900 := by
      have z : A * 1 ≤ A * (m + 2) := Nat.mul_le_mul_left A (by omega)
      omega
    refine ⟨_, rfl, r, _, 0, _, rfl, rfl, SqT.of h1, atI_nat (j := 0) rfl, fun D nD => ?_⟩
    have sD := same_new (o := .dK []) nD
    refine ⟨a, D, kvs, rfl, rfl, sD _ _ da.1, upd_same, _, rfl, ?_⟩
    have H1r := sD _ _ h1
    have da1 := da.same sD
    have h31 := h3.new sD
    generalize upd H D (.dK []) = H1 at sD H1r da1 h31
    by_cases ek : kvs = []
    · subst ek
      refine iteT ?_
      have k0 := k0 rfl
      have fz : ∀ x, f x = (0, 1) := fun x => da.2.2.2.2 x rfl
      intro E nE
      have sE := same_new (o := .dK []) nE
      have hE := upd_same (H := H1) (a := E) (o := .dK [])
      refine ⟨_, rfl, fun D2 nD2 => ?_⟩
      have sD2 := same_new (o := .dK []) nD2
      have S2 := (sD.trans sE).trans sD2
      have a2 : a ≠ D2 := ne_of_none (sE _ _ da1.1) nD2
      have w0 : toQ (wof f (fun _ => (0, 1)) (([] : List (Key × V)).map (·.1))) = 0 := toQ_zero
      refine ⟨r, a, D2, pn, srt, [], [], f, fun _ => (0, 1), num, True, True, 0, 0, 1, 1, rfl, S2 _ _ h1, dm_nil (S2 _ _ da.1) fz, dm_nil upd_same fun _ => rfl, h3.new S2, h4, fun x => by rw [fz x]; exact okb_zero 0, fun _ => okb_zero 0, okn.mono (by omega), by decide, a2, fun H3 s3 => ?_⟩
      rw [w0]
      refine ⟨_, rfl, .inr ⟨_, rfl, by show 2 ≤ sizeLine; decide, fun N nN => ?_⟩⟩
      refine ⟨by show 3 ≤ sizeLine; decide, fun R nR => ?_⟩
      have S3 := S2.trans s3
      have sN := same_new (o := .tup [.int (if (!keptB srt 0 (toQ num)) = true then 1 else 0), .int 1]) nN
      have sR := same_new (o := .tup [.ref E, .str "is", .ref N]) nR
      refine k0 _ R E ((S3.trans sN).trans sR) ((S3.trans sN).free nR) (sD.free nE) ⟨N, upd_same, dm_nil (sR _ _ (sN _ _ (s3 _ _ (sD2 _ _ hE)))) fun _ => rfl, ?_, by decide⟩
      refine FrT.of (sR _ _ ?_)
      rw [upd_same]
      cases keptB srt 0 (toQ num) <;> rfl
    · have kl0 : (kvs.length == 0) = false := by
        cases kvs with
        | nil => exact absurd rfl ek
        | cons _ _ => rfl
      have kpos : 0 < kvs.length := List.length_pos_iff.mpr ek
      rw [kl0]
      refine iteF ?_
      obtain ⟨mp, Bm, lo, okm, hBm, mkf, k⟩ := k ek
      have mk := mk_turn (mkF_list da mkf)
      refine ⟨_, rfl, r, _, 2, _, rfl, rfl, SqT.of H1r, atI_nat (j := 2) rfl, pn, _, 1, _, rfl, rfl, h31.1, atI_nat (j := 1) rfl, ?_⟩
      have ra : r ≠ a := fun z => by
        rw [z, da1.1] at H1r
        cases H1r
      have lkd : ∀ od (x : Addr) o, x ≠ a → H1 x = some o → (upd H1 a (.frz od (.dK kvs))) x = some o := fun od x o n e => by
        rw [upd_ne n]
        exact e
      have pick : ∀ {i : Nat} {key : Key} {v : V}, kvs[i]? = some (key, v) → ∃ nx rv, key = .inr nx ∧ v = .ref rv ∧ H1 rv = some (.tup [.int (f key).1, .int (f key).2]) ∧ rv ≠ a ∧ valV kvs key = some (.ref rv) := fun {i key v} hkv => by
        obtain ⟨⟨nx, e1, _⟩, ⟨rv, e2, e3⟩, _⟩ := da1.2.2.2.1 (key, v) (List.mem_of_getElem? hkv)
        have e2' : v = .ref rv := e2
        subst e2'
        refine ⟨nx, rv, e1, rfl, e3, fun c => ?_, val_nodup da1.2.1 (key, .ref rv) (List.mem_of_getElem? hkv)⟩
        rw [c, da1.1] at e3
        cases e3
      have kl := da.2.2.1
      have Ai : ∀ i, i ≤ kvs.length → A * (i + 1) ≤ 900 := fun i hi => Nat.le_trans (Nat.mul_le_mul_left A (by omega)) hA
      refine ⟨a, .dK kvs, da1.1, trivial, fun od => ⟨_, rfl, r, _, 0, _, rfl, rfl, SqT.of (lkd od _ _ ra H1r), atI_nat (j := 0) rfl, a, od, rfl, .inl ⟨kvs, upd_same, ?_⟩⟩⟩
      refine for_it walk_keys (fun i σ H' => ∃ (B : Int) (y2 : Option V), σ = [some (.ref r), some (.int B), y2, none, none, none] ∧ H' = upd H1 a (.frz od (.dK kvs)) ∧ 0 < B ∧ B.natAbs < 2 ^ (A * (i + 1)) ∧ num.2 ∣ B ∧ ∀ e ∈ (kvs.take i).map (fun p => f p.1), e.2 ∣ B)
        ⟨num.2, none, rfl, rfl, okn.1, by rw [Nat.zero_add, Nat.mul_one]; exact okn.2.2.1, Int.dvd_refl _, fun e he => by cases he⟩ (fun i σ H' _ hW => ?_) ?_ ?_
      · obtain ⟨_, _, _, rfl, _⟩ := hW
        exact upd_same
      · rintro i y σ H' H'' hi ⟨B, y2, rfl, rfl, B0, Bl, Bn, Bd⟩ ⟨rfl, key, v, hkv, rfl⟩
        obtain ⟨nx, rv, rfl, rfl, e3, rva, ev⟩ := pick hkv
        have oke := okf (.inr nx)
        have dg : DGet (upd H1 a (.frz od (.dK kvs))) a (kV (.inr nx)) (some (.ref rv)) := .inl ⟨kvs, .inr nx, .inr ⟨od, upd_same⟩, rfl, ev.symm⟩
        have ai := Ai i (by omega)
        have b3 : B.natAbs < 2 ^ 3000 := sm_mono Bl (by omega)
        have d3 : (f (.inr nx)).2.natAbs < 2 ^ 3000 := sm_mono oke.2.2.1 (by omega)
        refine ⟨_, rfl, _, rfl, r, _, 0, _, rfl, rfl, SqT.of (lkd od _ _ ra H1r), atI_nat (j := 0) rfl, _, rfl, a, _, rfl, dg, rv, _, 1, _, rfl, rfl, SqT.of (lkd od _ _ rva e3), atI_nat (j := 1) rfl, B, (f (.inr nx)).2, rfl, rfl, wide_mul b3 d3 (by decide) (by decide) (by decide), ?_⟩
        refine ⟨_, _, rfl, rfl, Int.mul_pos B0 oke.1, ?_, Int.dvd_trans Bn (Int.dvd_mul_right _ _), fun e he => ?_⟩
        · have z := sm_mul Bl oke.2.2.1
          rw [← Nat.mul_succ] at z
          exact z
        · rw [List.take_add_one, hkv, List.map_append] at he
          rcases List.mem_append.mp he with z | z
          · exact Int.dvd_trans (Bd e z) (Int.dvd_mul_right _ _)
          · have z' : e = f (.inr nx) := by simpa using z
            rw [z']
            exact Int.dvd_mul_left _ _
      · rintro σ H' ⟨B, y2, rfl, rfl, B0, Bl, Bn, Bd⟩
        rw [List.take_length] at Bd
        refine ⟨upd_same, ?_⟩
        rw [upd_back da1.1]
        have ai := Ai kvs.length (Nat.le_refl _)
        have b9 : B.natAbs < 2 ^ 900 := sm_mono Bl ai
        have b3 : B.natAbs < 2 ^ 3000 := sm_mono b9 (by decide)
        have hd : ∀ q ∈ num :: kvs.map fun p => f p.1, 0 < q.2 ∧ q.2 ∣ B := fun q hq => by
          rcases List.mem_cons.mp hq with z | z
          · rw [z]
            exact ⟨okn.1, Bn⟩
          · obtain ⟨p, _, e⟩ := List.mem_map.mp z
            exact ⟨by rw [← e]; exact (okf _).1, Bd q z⟩
        have ne : (kvs.map fun p => nmOf p.1) ≠ [] := fun z => ek (List.map_eq_nil_iff.mp z)
        refine ⟨_, rfl, r, _, 0, _, rfl, rfl, SqT.of H1r, atI_nat (j := 0) rfl, a, kvs, _, rfl, da1.1, keysT da, ne, fun lk l1 l2 => ?_⟩
        have lf := least_of da l1 l2
        have n3 : num.1.natAbs < 2 ^ 3000 := sm_mono okn.2.1 (by omega)
        have nd3 : num.2.natAbs < 2 ^ 3000 := sm_mono okn.2.2.1 (by omega)
        refine ⟨_, rfl, r, _, 2, _, rfl, rfl, SqT.of H1r, atI_nat (j := 2) rfl, pn, _, 0, _, rfl, rfl, h31.1, atI_nat (j := 0) rfl, _, rfl, num.1, B, rfl, rfl, wide_mul n3 b3 (by decide) (by decide) (by decide), ?_⟩
        refine ⟨_, rfl, r, _, 2, _, rfl, rfl, SqT.of H1r, atI_nat (j := 2) rfl, pn, _, 1, _, rfl, rfl, h31.1, atI_nat (j := 1) rfl, num.1 * B, num.2, rfl, rfl, cdiv_ok (Int.ne_of_gt okn.1) nd3 _, ?_⟩
        refine ⟨a, .dK kvs, da1.1, trivial, fun od2 => ⟨_, rfl, r, _, 0, _, rfl, rfl, SqT.of (lkd od2 _ _ ra H1r), atI_nat (j := 0) rfl, a, od2, rfl, .inl ⟨kvs, upd_same, ?_⟩⟩⟩
        refine for_it walk_keys (fun i σ H' => ∃ (u : Int) (y2 : Option V), σ = [some (.ref r), some (.int B), y2, some (.str lk), some (.int u), none] ∧ H' = upd H1 a (.frz od2 (.dK kvs)) ∧ u.natAbs = gl B (num :: (kvs.take i).map fun p => f p.1) ∧ (0 < i → 0 ≤ u))
          ⟨(num.1 * B).fdiv num.2, y2, rfl, rfl, by rw [dv_mul okn.1 Bn]; exact gl_one B num, fun z => absurd z (by decide)⟩ (fun i σ H' _ hW => ?_) ?_ ?_
        · obtain ⟨_, _, _, rfl, _⟩ := hW
          exact upd_same
        · rintro i y σ H' H'' hi ⟨u, y2, rfl, rfl, eu, _⟩ ⟨rfl, key, v, hkv, rfl⟩
          obtain ⟨nx, rv, rfl, rfl, e3, rva, ev⟩ := pick hkv
          have oke := okf (.inr nx)
          have dg : DGet (upd H1 a (.frz od2 (.dK kvs))) a (kV (.inr nx)) (some (.ref rv)) := .inl ⟨kvs, .inr nx, .inr ⟨od2, upd_same⟩, rfl, ev.symm⟩
          have t3 : (f (.inr nx)).1.natAbs < 2 ^ 3000 := sm_mono oke.2.1 (by omega)
          have d3 : (f (.inr nx)).2.natAbs < 2 ^ 3000 := sm_mono oke.2.2.1 (by omega)
          have dvB : (f (.inr nx)).2 ∣ B := Bd _ (List.mem_map.mpr ⟨_, List.mem_of_getElem? hkv, rfl⟩)
          refine ⟨_, rfl, _, rfl, r, _, 0, _, rfl, rfl, SqT.of (lkd od2 _ _ ra H1r), atI_nat (j := 0) rfl, _, rfl, a, _, rfl, dg, rv, _, 0, _, rfl, rfl, SqT.of (lkd od2 _ _ rva e3), atI_nat (j := 0) rfl, _, rfl, (f (.inr nx)).1, B, rfl, rfl, wide_mul t3 b3 (by decide) (by decide) (by decide), ?_⟩
          refine ⟨_, rfl, r, _, 0, _, rfl, rfl, SqT.of (lkd od2 _ _ ra H1r), atI_nat (j := 0) rfl, _, rfl, a, _, rfl, dg, rv, _, 1, _, rfl, rfl, SqT.of (lkd od2 _ _ rva e3), atI_nat (j := 1) rfl, (f (.inr nx)).1 * B, (f (.inr nx)).2, rfl, rfl, cdiv_ok (Int.ne_of_gt oke.1) d3 _, ?_⟩
          refine ⟨u, _, rfl, _, _, rfl, rfl, ?_, fun _ => Int.natCast_nonneg _⟩
          rw [Int.natAbs_natCast, gl_step (e := f (.inr nx)) eu (dv_mul oke.1 dvB), List.take_add_one, hkv, List.map_append]
          rfl
        · rintro σ H' ⟨u, y2, rfl, rfl, eu, u0⟩
          have u0 := u0 kpos
          rw [List.take_length] at eu
          have ug : u = ((gl B (num :: kvs.map fun p => f p.1) : Nat) : Int) := by omega
          subst ug
          refine ⟨upd_same, ?_⟩
          rw [upd_back da1.1]
          obtain ⟨pe, hpe, elk⟩ := List.mem_map.mp l1
          obtain ⟨⟨nx', e1, _⟩, ⟨rv, e2, e3⟩, _⟩ := da1.2.2.2.1 pe hpe
          have ek' : pe.1 = .inr lk := by
            rw [e1] at elk ⊢
            exact congrArg Sum.inr elk
          have ev : valV kvs (.inr lk) = some (.ref rv) := by
            have z := val_nodup da1.2.1 pe hpe
            rw [ek', e2] at z
            exact z
          rw [ek'] at e3
          have dg : DGet H1 a (kV (.inr lk)) (some (.ref rv)) := .inl ⟨kvs, .inr lk, .inl da1.1, rfl, ev.symm⟩
          obtain ⟨uu, huu⟩ : ∃ uu, uu = if (f (.inr lk)).1 < 0 then 0 - ((gl B (num :: kvs.map fun p => f p.1) : Nat) : Int) else ((gl B (num :: kvs.map fun p => f p.1) : Nat) : Int) := ⟨_, rfl⟩
          obtain ⟨eM, sM, uz, un⟩ := mk_sign B0 hd lo mk lf.1 huu
          have okS : Okb (Bm + 1) (signed mp (f (.inr lk))) := by
            unfold signed
            split
            · exact okm.mono (by omega)
            · exact okb_times okm okb_mone
          have k := k lk lf
          have ub : uu.natAbs < 2 ^ 8000 := by
            rw [un]
            have dv := gl_dvd (B := B) _ (num :: kvs.map fun p => f p.1) rfl (f (.inr lk)) (List.mem_cons_of_mem _ (List.mem_map.mpr ⟨pe, hpe, by rw [ek']⟩))
            have oke := okf (.inr lk)
            have dd := hd (f (.inr lk)) (List.mem_cons_of_mem _ (List.mem_map.mpr ⟨pe, hpe, by rw [ek']⟩))
            have q3 : (B.fdiv (f (.inr lk)).2).natAbs < 2 ^ 3000 := dv_lt dd.2 (Int.ne_of_gt oke.1) b3
            rw [Int.fdiv_eq_ediv_of_nonneg _ (Int.le_of_lt oke.1)] at q3
            have nz : (f (.inr lk)).1 * (B / (f (.inr lk)).2) ≠ 0 := fun z => by
              rcases Int.mul_eq_zero.mp z with c | c
              · exact lf.1 c
              · obtain ⟨p0, x, hx⟩ := dd
                rw [hx, Int.mul_ediv_cancel_left _ (Int.ne_of_gt p0)] at c
                rw [c, Int.mul_zero] at hx
                omega
            have le := Nat.le_of_dvd (Int.natAbs_pos.mpr nz) (Int.natAbs_dvd_natAbs.mpr dv)
            rw [Int.natAbs_natCast] at le
            exact Nat.lt_of_le_of_lt le (sm_mono (sm_mul oke.2.1 q3) (by omega))
          refine' mid (C := _) (Inv := fun σ H' => σ = [some (.ref r), some (.int B), y2, some (.str lk), some (.int uu), none] ∧ H' = H1) (fun key => ?main) ?cont
          case main =>
            refine ⟨_, rfl, r, _, 0, _, rfl, rfl, SqT.of H1r, atI_nat (j := 0) rfl, _, rfl, a, _, rfl, dg, rv, _, 0, _, rfl, rfl, SqT.of e3, atI_nat (j := 0) rfl, (f (.inr lk)).1, 0, rfl, rfl, _, rfl, ite2 (fun c => ?_) (fun c => ?_)⟩
            · have c' : (f (.inr lk)).1 < 0 := of_decide_eq_true c
              rw [if_pos c'] at huu
              refine ⟨_, rfl, 0, _, rfl, rfl, ?_⟩
              exact key _ _ ⟨by rw [huu], rfl⟩
            · have c' : ¬ (f (.inr lk)).1 < 0 := fun z => c (decide_eq_true z)
              rw [if_neg c'] at huu
              exact key _ _ ⟨by rw [huu], rfl⟩
          case cont =>
            rintro σ H' ⟨rfl, rfl⟩
            refine ⟨_, rfl, r, _, 1, _, rfl, rfl, SqT.of H1r, atI_nat (j := 1) rfl, ?_⟩
            refine' mid (C := _) (Inv := fun σ H2 => σ = [some (.ref r), some (.int B), y2, some (.str lk), some (.int uu), some (.str (turnS (signed mp (f (.inr lk))) srt))] ∧ Same H' H2) (fun key => ?main2) ?cont2
            case main2 =>
              refine ⟨_, rfl, uu, 0, rfl, rfl, _, rfl, ite2 (fun c => ?_) (fun c => ?_)⟩
              · have c' : uu < 0 := of_decide_eq_true c
                have et : turnS (signed mp (f (.inr lk))) srt = turnT srt := if_pos (sM.mp c')
                intro D2 nD2
                refine ⟨upd_same, turnKV, rfl, by decide, ?_⟩
                have s1 : Same H' (upd (upd H' D2 (.dK [])) D2 (.dK (mergeK [] turnKV))) := fun b o e => by
                  rw [upd_ne (ne_of_none e nD2), upd_ne (ne_of_none e nD2)]
                  exact e
                refine ⟨_, rfl, D2, _, rfl, .inl ⟨_, .inr srt, .inl upd_same, rfl, (turn_get h4).symm⟩, ?_⟩
                exact key _ _ ⟨by rw [et], s1⟩
              · have c' : ¬ uu < 0 := fun z => c (decide_eq_true z)
                have et : turnS (signed mp (f (.inr lk))) srt = srt := if_neg fun z => c' (sM.mpr z)
                exact key _ _ ⟨by rw [et]; rfl, fun _ _ e => e⟩
            case cont2 =>
              rintro σ H2 ⟨rfl, s2⟩
              have S2 := sD.trans s2
              have em1 : fr1 B uu = (signed mp (f (.inr lk))).1 := congrArg Prod.fst eM
              have em2 : fr2 B uu = (signed mp (f (.inr lk))).2 := congrArg Prod.snd eM
              generalize signed mp (f (.inr lk)) = M at k okS sM eM em1 em2 ⊢
              intro E3 nE3
              have s3 := same_new (o := .dK []) nE3
              have S3 := S2.trans s3
              refine ⟨_, rfl, r, _, 0, _, rfl, rfl, SqT.of (S3 _ _ h1), atI_nat (j := 0) rfl, _, rfl, _, rfl, B, uu, rfl, uz, ub, fun p np => ?_⟩
              rw [em1, em2]
              have sp := same_new (o := .tup [.int M.1, .int M.2]) np
              have S4 := S3.trans sp
              refine ⟨E3, a, p, [], kvs, fun _ => (0, 1), f, M, 0, m, rfl, dm_new (sp _ _ upd_same), (da.same S4).weak, FrT.of upd_same, fun _ => okb_zero 999, fun x => (okf x).mono (by omega), okS.mono (by omega), by decide, by omega, fun H5 c5 k5 s5 n5 d5 => ?_⟩
              have S5 := S4.trans s5
              refine ⟨_, rfl, _, rfl, r, _, 2, _, rfl, rfl, SqT.of (S5 _ _ h1), atI_nat (j := 2) rfl, _, rfl, _, rfl, B, uu, rfl, uz, ub, fun p6 np6 => ?_⟩
              rw [em1, em2]
              have s6 := same_new (o := .tup [.int M.1, .int M.2]) np6
              have S6 := S5.trans s6
              refine ⟨num.1, num.2, M.1, M.2, two_okb (h3.new S6) (FrT.of upd_same) okn okS (by omega) (by omega), fun p7 np7 => ?_⟩
              have s7 := same_new (o := .tup [.int (ftimes num M).1, .int (ftimes num M).2]) np7
              have S7 := S6.trans s7
              refine ⟨by show 3 ≤ sizeLine; decide, fun R nR => ?_⟩
              have s8 := same_new (o := .tup [.ref c5, .str (turnS M srt), .ref p7]) nR
              refine k _ R c5 k5 (S7.trans s8) (S7.free nR) (S4.free n5) ⟨p7, upd_same, ?_, FrT.of (s8 _ _ upd_same), turnS_mem h4⟩
              refine ((((d5.mono (by omega)).fn fun x => ?_).same s6).same s7).same s8
              exact (zero_fplus (okb_times (okf x) okS)).symm
end
end SS
namespace SS
open PySem PySem.Spec PyProof.Rows L2
theorem lo_okb {A : Nat} {x : Int × Int} (h : Okb A x) : Lo x := ⟨h.1, h.2.2.2⟩
theorem toQ_z {x : Int × Int} (h : x.1 = 0) : toQ x = 0 := by
  unfold toQ
  rw [h, Rat.zero_divInt]
theorem toQ_nz {x : Int × Int} (lo : Lo x) (h : x.1 ≠ 0) : toQ x ≠ 0 := fun z => h (by
  have e := toQ_inj lo lo_zero (z.trans toQ_zero.symm)
  rw [e])
theorem toQ_neg {x : Int × Int} (lo : Lo x) : x.1 < 0 ↔ toQ x < 0 := by
  have z := toQ_lt_iff (a := x) (b := (0, 1)) lo.1 (by decide)
  rw [toQ_zero] at z
  rw [← z]
  show x.1 < 0 ↔ x.1 * 1 < 0 * x.2
  omega
theorem toQ_pos {x : Int × Int} (lo : Lo x) : 0 < x.1 ↔ 0 < toQ x := by
  have z := toQ_lt_iff (a := (0, 1)) (b := x) (by decide) lo.1
  rw [toQ_zero] at z
  rw [← z]
  show 0 < x.1 ↔ 0 * x.2 < x.1 * 1
  omega
theorem nz_times {a b : Int × Int} (ha : Lo a) (hb : Lo b) (nb : b.1 ≠ 0) : (ftimes a b).1 ≠ 0 ↔ a.1 ≠ 0 := by
  have lm := lo_times ha.1 hb.1
  have e := toQ_times ha.1 hb.1
  have qb := toQ_nz hb nb
  constructor
  · intro h z
    have := toQ_nz lm h
    rw [e, toQ_z z, Rat.zero_mul] at this
    exact this rfl
  · intro h z
    have qa := toQ_nz ha h
    have z2 := toQ_z z
    rw [e] at z2
    rcases Rat.mul_eq_zero.mp z2 with c | c
    · exact qa c
    · exact qb c
theorem lo_signed {mp x : Int × Int} (lo : Lo mp) : Lo (signed mp x) := by
  unfold signed
  split
  · exact lo
  · exact lo_times lo.1 (by decide)
theorem toQ_signed {mp x : Int × Int} (lo : Lo mp) (lx : Lo x) : toQ (signed mp x) = if 0 < toQ x then toQ mp else -toQ mp := by
  unfold signed
  by_cases c : 0 < x.1
  · rw [if_pos c, if_pos ((toQ_pos lx).mp c)]
  · rw [if_neg c, if_neg fun z => c ((toQ_pos lx).mpr z), toQ_times lo.1 (by decide), toQ_mone]
    grind
theorem least_uniq {f : Key → Int × Int} {a b : Str} (h1 : LeastF f a) (h2 : LeastF f b) : a = b := leS_anti (h1.2 b h2.1) (h2.2 a h1.1)
theorem least_times {f g : Key → Int × Int} {lk : Str} (e : ∀ k, (g k).1 ≠ 0 ↔ (f k).1 ≠ 0) (h : LeastF f lk) : LeastF g lk := ⟨(e _).mpr h.1, fun j hj => h.2 j ((e _).mp hj)⟩
theorem mkF_scale {m m' s : Rat} {f g : Key → Int × Int} {num num' : Int × Int} (h : MkF m f num) (p : 0 < m') (e : s * m' = m ∨ s * m' = -m) (eg : ∀ k, toQ (g k) = toQ (f k) * s) (en : toQ num' = toQ num * s) : MkF m' g num' := by
  have one : ∀ {q q' : Rat}, q' = q * s → q' * m' = q * m ∨ q' * m' = -(q * m) := fun {q q'} z => by
    rcases e with e | e
    · left
      rw [z, Rat.mul_assoc, e]
    · right
      rw [z, Rat.mul_assoc, e]
      grind
  have fw : ∀ {q q' : Rat}, q' = q * s → (∃ z : Int, q * m = (z : Rat)) → ∃ z : Int, q' * m' = (z : Rat) := fun {q q'} z ⟨x, hx⟩ => by
    rcases one z with c | c
    · exact ⟨x, by rw [c, hx]⟩
    · exact ⟨-x, by rw [c, hx, Rat.intCast_neg]⟩
  have bw : ∀ {q q' : Rat} {d : Nat}, q' = q * s → (∃ z : Int, q' * m' = ((((d : Nat) : Int) * z : Int) : Rat)) → ∃ z : Int, q * m = ((((d : Nat) : Int) * z : Int) : Rat) := fun {q q' d} z ⟨x, hx⟩ => by
    rcases one z with c | c
    · exact ⟨x, by rw [← c, hx]⟩
    · refine ⟨-x, ?_⟩
      rw [Int.mul_neg, Rat.intCast_neg, ← hx, c]
      grind
  exact ⟨p, ⟨fun k => fw (eg k) (h.2.1.1 k), fw en h.2.1.2⟩, fun d h1 h2 => h.2.2 d (fun k => bw (eg k) (h1 k)) (bw en h2)⟩
/-- what the plain row of a row is -/
def Pl (B : Nat) (f : Key → Int × Int) (srt : Str) (num : Int × Int) (F : Key → Int × Int) (S : Str) (N : Int × Int) : Prop :=
  ((∀ k, f k = (0, 1)) ∧ F = (fun _ => (0, 1)) ∧ S = "is" ∧ N = if keptB srt 0 (toQ num) then (0, 1) else (1, 1)) ∨
  ∃ (lk : Str) (mp : Int × Int), LeastF f lk ∧ Lo mp ∧ Okb B mp ∧ MkF (toQ mp) f num ∧ F = (fun k => ftimes (f k) (signed mp (f (.inr lk)))) ∧ S = turnS (signed mp (f (.inr lk))) srt ∧ N = ftimes num (signed mp (f (.inr lk)))
theorem ftimes_l1 {a : Int × Int} (h : Lo a) : ftimes a (1, 1) = a := toQ_inj (lo_times h.1 (by decide)) h (by rw [toQ_times h.1 (by decide), toQ_one, Rat.mul_one])
theorem turn_one (s : Str) : turnS (1, 1) s = s := if_neg (by decide)
theorem turnT_turnT {s : Str} (h : s ∈ sorts) : turnT (turnT s) = s := by
  rcases sorts5 h with rfl | rfl | rfl | rfl | rfl <;> rfl
/-- the plain row of a plain row is itself -/
theorem pl_again {B : Nat} {f : Key → Int × Int} {srt : Str} {num : Int × Int} {F : Key → Int × Int} {S : Str} {N : Int × Int} (lf : ∀ k, Lo (f k)) (ln : Lo num) (h : Pl B f srt num F S N) : Pl 1 F S N F S N := by
  rcases h with ⟨_, rfl, rfl, rfl⟩ | ⟨lk, mp, hl, lo, _, mk, rfl, rfl, rfl⟩
  · refine .inl ⟨fun _ => rfl, rfl, rfl, ?_⟩
    rw [kept_is]
    by_cases c : keptB srt 0 (toQ num) = true
    · rw [if_pos c, toQ_zero, if_pos (by decide)]
    · rw [if_neg c, toQ_one, if_neg (by decide)]
  · have loM := lo_signed (x := f (.inr lk)) lo
    have qM := toQ_signed (x := f (.inr lk)) lo (lf _)
    have m0 := mk.1
    have sM : toQ (signed mp (f (.inr lk))) * 1 = toQ mp ∨ toQ (signed mp (f (.inr lk))) * 1 = -toQ mp := by
      rw [qM, Rat.mul_one]
      split
      · exact .inl rfl
      · exact .inr rfl
    have nM : (signed mp (f (.inr lk))).1 ≠ 0 := fun z => by
      have z2 := toQ_z z
      rw [Rat.mul_one, z2] at sM
      grind
    have fl0 := toQ_nz (lf _) hl.1
    have up : 0 < toQ (ftimes (f (.inr lk)) (signed mp (f (.inr lk)))) := by
      rw [toQ_times (lf _).1 loM.1, qM]
      split
      · rename_i c
        exact Rat.mul_pos c m0
      · rename_i c
        have c1 : 0 < -toQ (f (.inr lk)) := by grind
        have c2 := Rat.mul_pos c1 m0
        grind
    have es : signed (1, 1) (ftimes (f (.inr lk)) (signed mp (f (.inr lk)))) = (1, 1) := if_pos ((toQ_pos (lo_times (lf _).1 loM.1)).mpr up)
    refine .inr ⟨lk, (1, 1), least_times (fun k => nz_times (lf k) loM nM) hl, ⟨by decide, by decide⟩, ⟨by decide, by decide, by decide, by decide⟩, ?_, ?_, ?_, ?_⟩
    · rw [toQ_one]
      exact mkF_scale (s := toQ (signed mp (f (.inr lk)))) mk (by decide) sM (fun k => toQ_times (lf k).1 loM.1) (toQ_times ln.1 loM.1)
    · funext k
      show _ = ftimes (ftimes (f k) (signed mp (f (.inr lk)))) (signed (1, 1) (ftimes (f (.inr lk)) (signed mp (f (.inr lk)))))
      rw [es, ftimes_l1 (lo_times (lf k).1 loM.1)]
    · show _ = turnS (signed (1, 1) (ftimes (f (.inr lk)) (signed mp (f (.inr lk))))) _
      rw [es, turn_one]
    · show _ = ftimes _ (signed (1, 1) (ftimes (f (.inr lk)) (signed mp (f (.inr lk)))))
      rw [es, ftimes_l1 (lo_times ln.1 loM.1)]
/-- 1 over c, and 1 over the size of c -/
def inv2 (c : Int × Int) : Int × Int := (fr1 c.2 c.1, fr2 c.2 c.1)
def invA (c : Int × Int) : Int × Int := (c.2, ((c.1.natAbs : Nat) : Int))
theorem toQ_inv2 {c : Int × Int} (lo : Lo c) (nz : c.1 ≠ 0) : toQ c * toQ (inv2 c) = 1 := by
  unfold inv2
  rw [toQ_fr nz]
  unfold toQ
  rw [Rat.divInt_eq_div, Rat.divInt_eq_div]
  have a : (c.1 : Rat) ≠ 0 := fun z => nz (by exact_mod_cast z)
  have b : (c.2 : Rat) ≠ 0 := fun z => by
    have : c.2 = 0 := by exact_mod_cast z
    have := lo.1
    omega
  grind
theorem lo_inv2 {c : Int × Int} (nz : c.1 ≠ 0) : Lo (inv2 c) := lo_fr nz
theorem lo_invA {c : Int × Int} (lo : Lo c) (nz : c.1 ≠ 0) : Lo (invA c) := by
  refine ⟨by show (0 : Int) < ((c.1.natAbs : Nat) : Int); omega, ?_⟩
  show Int.gcd c.2 ((c.1.natAbs : Nat) : Int) = 1
  have z := lo.2
  unfold Int.gcd at z ⊢
  rw [Int.natAbs_natCast, Nat.gcd_comm]
  exact z
theorem toQ_invA {c : Int × Int} (lo : Lo c) (nz : c.1 ≠ 0) : 0 < toQ (invA c) ∧ ((0 < toQ c ∧ toQ c * toQ (invA c) = 1) ∨ (toQ c < 0 ∧ toQ c * toQ (invA c) = -1)) := by
  have li := lo_invA lo nz
  refine ⟨(toQ_pos li).mp lo.1, ?_⟩
  have b : (c.2 : Rat) ≠ 0 := fun z => by
    have : c.2 = 0 := by exact_mod_cast z
    have := lo.1
    omega
  have a : (c.1 : Rat) ≠ 0 := fun z => nz (by exact_mod_cast z)
  have q1 : toQ c = (c.1 : Rat) / (c.2 : Rat) := Rat.divInt_eq_div _ _
  have q2 : toQ (invA c) = (c.2 : Rat) / (((c.1.natAbs : Nat) : Int) : Rat) := Rat.divInt_eq_div _ _
  by_cases s : 0 < c.1
  · refine .inl ⟨(toQ_pos lo).mp s, ?_⟩
    have e : ((c.1.natAbs : Nat) : Int) = c.1 := by omega
    rw [q1, q2, e]
    grind
  · have s' : c.1 < 0 := by omega
    refine .inr ⟨(toQ_neg lo).mp s', ?_⟩
    have e : ((c.1.natAbs : Nat) : Int) = -c.1 := by omega
    rw [q1, q2, e, Rat.intCast_neg]
    grind
theorem turn2 {c M M' : Int × Int} {srt : Str} (hs : srt ∈ sorts) (lc : Lo c) (l1 : Lo M) (l2 : Lo M') (nz : c.1 ≠ 0) (nM : M.1 ≠ 0) (e : toQ c * toQ M' = toQ M) : turnS M' (turnS c srt) = turnS M srt := by
  have c0 := toQ_nz lc nz
  have m0 := toQ_nz l1 nM
  have pp : ∀ {a b : Rat}, a < 0 → b < 0 → 0 < a * b := fun {a b} h1 h2 => by
    have z := Rat.mul_pos (a := -a) (b := -b) (by grind) (by grind)
    grind
  have pn : ∀ {a b : Rat}, 0 < a → b < 0 → a * b < 0 := fun {a b} h1 h2 => by
    have z := Rat.mul_pos (a := a) (b := -b) h1 (by grind)
    grind
  have np : ∀ {a b : Rat}, a < 0 → 0 < b → a * b < 0 := fun {a b} h1 h2 => by
    have z := Rat.mul_pos (a := -a) (b := b) (by grind) h2
    grind
  have m1 : toQ M' ≠ 0 := fun z => m0 (by rw [← e, z, Rat.mul_zero])
  unfold turnS
  by_cases a : c.1 < 0
  · have qa := (toQ_neg lc).mp a
    rw [if_pos a]
    by_cases b : M'.1 < 0
    · have qb := (toQ_neg l2).mp b
      have z := pp qa qb
      rw [e] at z
      rw [if_pos b, if_neg fun y => by have := (toQ_neg l1).mp y; grind, turnT_turnT hs]
    · have qb : 0 < toQ M' := by
        have : ¬ toQ M' < 0 := fun y => b ((toQ_neg l2).mpr y)
        grind
      have z := np qa qb
      rw [e] at z
      rw [if_neg b, if_pos ((toQ_neg l1).mpr z)]
  · have qa : 0 < toQ c := by
      have : ¬ toQ c < 0 := fun y => a ((toQ_neg lc).mpr y)
      grind
    rw [if_neg a]
    by_cases b : M'.1 < 0
    · have qb := (toQ_neg l2).mp b
      have z := pn qa qb
      rw [e] at z
      rw [if_pos b, if_pos ((toQ_neg l1).mpr z)]
    · have qb : 0 < toQ M' := by
        have : ¬ toQ M' < 0 := fun y => b ((toQ_neg l2).mpr y)
        grind
      have z := Rat.mul_pos qa qb
      rw [e] at z
      rw [if_neg b, if_neg fun y => by have := (toQ_neg l1).mp y; grind]
theorem kept_times {s : Str} (hs : s ∈ sorts) {c : Int × Int} (lc : Lo c) (nz : c.1 ≠ 0) (x : Rat) : keptB (turnS c s) 0 (x * toQ c) = keptB s 0 x := by
  have c0 := toQ_nz lc nz
  have e0 : (0 : Rat) = x * toQ c ↔ 0 = x := by
    constructor
    · intro h
      rcases Rat.mul_eq_zero.mp h.symm with z | z
      · exact z.symm
      · exact absurd z c0
    · intro h
      rw [← h, Rat.zero_mul]
  by_cases a : c.1 < 0
  · have qa := (toQ_neg lc).mp a
    have lt1 : (0 < x * toQ c) ↔ x < 0 := by
      constructor
      · intro h
        refine Rat.not_le.mp fun z => ?_
        have z2 := Rat.mul_nonneg z (show 0 ≤ -toQ c by grind)
        grind
      · intro h
        have z2 := Rat.mul_pos (show 0 < -x by grind) (show 0 < -toQ c by grind)
        grind
    have lt2 : (x * toQ c < 0) ↔ 0 < x := by
      constructor
      · intro h
        refine Rat.not_le.mp fun z => ?_
        have z2 := Rat.mul_nonneg (show 0 ≤ -x by grind) (show 0 ≤ -toQ c by grind)
        grind
      · intro h
        have z2 := Rat.mul_pos h (show 0 < -toQ c by grind)
        grind
    have et : turnS c s = turnT s := if_pos a
    rw [et]
    rcases sorts5 hs with rfl | rfl | rfl | rfl | rfl
    · show keptB "is" _ _ = _
      rw [kept_is, kept_is]
      exact decide_eq_decide.mpr e0
    · show keptB "least" _ _ = _
      rw [kept_least, kept_most]
      exact decide_eq_decide.mpr (by rw [← Rat.not_lt, lt1, Rat.not_lt])
    · show keptB "most" _ _ = _
      rw [kept_least, kept_most]
      exact decide_eq_decide.mpr (by rw [← Rat.not_lt, lt2, Rat.not_lt])
    · show keptB "above" _ _ = _
      rw [kept_above, kept_below]
      exact decide_eq_decide.mpr lt2
    · show keptB "below" _ _ = _
      rw [kept_above, kept_below]
      exact decide_eq_decide.mpr lt1
  · have qa : 0 < toQ c := by
      have : ¬ toQ c < 0 := fun y => a ((toQ_neg lc).mpr y)
      grind
    have lt1 : (0 < x * toQ c) ↔ 0 < x := by
      constructor
      · intro h
        refine Rat.not_le.mp fun z => ?_
        have z2 := Rat.mul_nonneg (show 0 ≤ -x by grind) (Rat.le_of_lt qa)
        grind
      · intro h
        exact Rat.mul_pos h qa
    have lt2 : (x * toQ c < 0) ↔ x < 0 := by
      constructor
      · intro h
        refine Rat.not_le.mp fun z => ?_
        have z2 := Rat.mul_nonneg z (Rat.le_of_lt qa)
        grind
      · intro h
        have z2 := Rat.mul_pos (show 0 < -x by grind) qa
        grind
    have et : turnS c s = s := if_neg a
    rw [et]
    rcases sorts5 hs with rfl | rfl | rfl | rfl | rfl
    · rw [kept_is, kept_is]
      exact decide_eq_decide.mpr e0
    · rw [kept_most, kept_most]
      exact decide_eq_decide.mpr (by rw [← Rat.not_lt, lt2, Rat.not_lt])
    · rw [kept_least, kept_least]
      exact decide_eq_decide.mpr (by rw [← Rat.not_lt, lt1, Rat.not_lt])
    · rw [kept_below, kept_below]
      exact decide_eq_decide.mpr lt1
    · rw [kept_above, kept_above]
      exact decide_eq_decide.mpr lt2
end SS
namespace SS
open PySem PySem.Spec PyProof.Rows L2
theorem okb_invA {A : Nat} {c : Int × Int} (h : Okb A c) (nz : c.1 ≠ 0) : Okb A (invA c) := by
  have l := lo_invA (lo_okb h) nz
  refine ⟨l.1, h.2.2.1, ?_, l.2⟩
  show (((c.1.natAbs : Nat) : Int)).natAbs < 2 ^ A
  rw [Int.natAbs_natCast]
  exact h.2.1
/-- a row and a multiple of it have one plain row -/
theorem pl_far {A B : Nat} {f : Key → Int × Int} {srt : Str} {num c : Int × Int} {F : Key → Int × Int} {S : Str} {N : Int × Int} (lf : ∀ k, Lo (f k)) (ln : Lo num) (hs : srt ∈ sorts) (okc : Okb A c) (nz : c.1 ≠ 0) (h : Pl B f srt num F S N) :
    Pl (B + A) (fun k => ftimes (f k) c) (turnS c srt) (ftimes num c) F S N := by
  have lc := lo_okb okc
  rcases h with ⟨f0, rfl, rfl, rfl⟩ | ⟨lk, mp, hl, lo, okm, mk, rfl, rfl, rfl⟩
  · refine .inl ⟨fun k => ?_, rfl, rfl, ?_⟩
    · show ftimes (f k) c = (0, 1)
      rw [f0 k]
      exact zero_ftimes okc
    · rw [toQ_times ln.1 lc.1, kept_times hs lc nz]
  · have li := lo_invA lc nz
    obtain ⟨ip, ic⟩ := toQ_invA lc nz
    have lo2 := lo_times lo.1 li.1
    have loM := lo_signed (x := f (.inr lk)) lo
    have loM2 := lo_signed (x := ftimes (f (.inr lk)) c) lo2
    have qM := toQ_signed (x := f (.inr lk)) lo (lf _)
    have qM2 := toQ_signed (x := ftimes (f (.inr lk)) c) lo2 (lo_times (lf _).1 lc.1)
    rw [toQ_times (lf _).1 lc.1, toQ_times lo.1 li.1] at qM2
    have m0 := mk.1
    have x0 := toQ_nz (lf _) hl.1
    have e : toQ c * toQ (signed (ftimes mp (invA c)) (ftimes (f (.inr lk)) c)) = toQ (signed mp (f (.inr lk))) := by
      rw [qM, qM2]
      generalize toQ (f (.inr lk)) = x at *
      generalize toQ (invA c) = ia at *
      generalize toQ c = q at *
      generalize toQ mp = m at *
      rcases ic with ⟨q0, qi⟩ | ⟨q0, qi⟩
      · by_cases s : 0 < x
        · rw [if_pos s, if_pos (Rat.mul_pos s q0)]
          grind
        · have z : ¬ 0 < x * q := fun y => by
            have z2 := Rat.mul_pos (show 0 < -x by grind) q0
            grind
          rw [if_neg s, if_neg z]
          grind
      · by_cases s : 0 < x
        · have z : ¬ 0 < x * q := fun y => by
            have z2 := Rat.mul_pos s (show 0 < -q by grind)
            grind
          rw [if_pos s, if_neg z]
          grind
        · have z : 0 < x * q := by
            have z2 := Rat.mul_pos (show 0 < -x by grind) (show 0 < -q by grind)
            grind
          rw [if_neg s, if_pos z]
          grind
    have nM : (signed mp (f (.inr lk))).1 ≠ 0 := fun z => by
      have z2 := toQ_z z
      rw [qM] at z2
      split at z2 <;> grind
    have eq : ∀ {a : Int × Int}, Lo a → ftimes a (signed mp (f (.inr lk))) = ftimes (ftimes a c) (signed (ftimes mp (invA c)) (ftimes (f (.inr lk)) c)) := fun {a} la => by
      have lac := lo_times la.1 lc.1
      refine toQ_inj (lo_times la.1 loM.1) (lo_times lac.1 loM2.1) ?_
      rw [toQ_times la.1 loM.1, toQ_times lac.1 loM2.1, toQ_times la.1 lc.1, Rat.mul_assoc, e]
    refine .inr ⟨lk, ftimes mp (invA c), least_times (fun k => nz_times (lf k) lc nz) hl, lo2, okb_times okm (okb_invA okc nz), ?_, ?_, ?_, ?_⟩
    · rw [toQ_times lo.1 li.1]
      refine mkF_scale (s := toQ c) mk (Rat.mul_pos m0 ip) ?_ (fun k => toQ_times (lf k).1 lc.1) (toQ_times ln.1 lc.1)
      rcases ic with ⟨_, qi⟩ | ⟨_, qi⟩
      · left
        grind
      · right
        grind
    · funext k
      exact eq (lf k)
    · exact (turn2 hs lc loM loM2 nz nM e).symm
    · exact eq ln
/-- taken back by 1 over c -/
theorem back_f {a c : Int × Int} (la : Lo a) (lc : Lo c) (nz : c.1 ≠ 0) : ftimes (ftimes a c) (inv2 c) = a := by
  have li := lo_inv2 nz
  have lac := lo_times la.1 lc.1
  refine toQ_inj (lo_times lac.1 li.1) la ?_
  rw [toQ_times lac.1 li.1, toQ_times la.1 lc.1, Rat.mul_assoc, toQ_inv2 lc nz, Rat.mul_one]
theorem back_s {c : Int × Int} {srt : Str} (hs : srt ∈ sorts) (lc : Lo c) (nz : c.1 ≠ 0) : turnS (inv2 c) (turnS c srt) = srt := by
  have z := turn2 (M := (1, 1)) (M' := inv2 c) hs lc ⟨by decide, by decide⟩ (lo_inv2 nz) nz (by decide) (by rw [toQ_inv2 lc nz, toQ_one])
  rw [z, turn_one]
theorem okb_inv2 {A : Nat} {c : Int × Int} (h : Okb A c) (nz : c.1 ≠ 0) : Okb A (inv2 c) := ⟨(lo_inv2 nz).1, Nat.lt_of_le_of_lt (fr1_le nz) h.2.2.1, Nat.lt_of_le_of_lt (fr2_le nz) h.2.1, (lo_inv2 nz).2⟩
/-! ### there is one -/
def prodB (L : List (Int × Int)) : Int := L.foldr (fun q b => q.2 * b) 1
theorem prodB_ok {A : Nat} : ∀ (L : List (Int × Int)), (∀ q ∈ L, Okb A q) → 0 < prodB L ∧ (prodB L).natAbs < 2 ^ (A * L.length + 1) ∧ ∀ q ∈ L, q.2 ∣ prodB L
  | [], _ => ⟨by decide, by show 1 < 2 ^ (A * 0 + 1); rw [Nat.mul_zero]; decide, fun q hq => by cases hq⟩
  | x :: L, h => by
    obtain ⟨a, b, c⟩ := prodB_ok L fun q hq => h q (List.mem_cons_of_mem _ hq)
    have hx := h x List.mem_cons_self
    refine ⟨Int.mul_pos hx.1 a, ?_, fun q hq => ?_⟩
    · have z := sm_mul hx.2.2.1 b
      have e : A + (A * L.length + 1) = A * (x :: L).length + 1 := by rw [List.length_cons, Nat.mul_succ]; omega
      rw [e] at z
      exact z
    · rcases List.mem_cons.mp hq with z | z
      · rw [z]
        exact Int.dvd_mul_right _ _
      · exact Int.dvd_trans (c q z) (Int.dvd_mul_left _ _)
theorem turnS_okM {M : Int × Int} {s : Str} (h : s ∈ sorts) : turnS M s ∈ sorts := turnS_mem h
theorem pl_ex {m : Nat} {H : Hp} {a : Addr} {kvs : List (Key × V)} {f : Key → Int × Int} {srt : Str} {num : Int × Int} (da : DM True m H a kvs f) (hm : m ≤ 10) (okf : ∀ k, Okb 20 (f k)) (okn : Okb 20 num) (hs : srt ∈ sorts) : ∃ F S N, Pl 241 f srt num F S N ∧ (∀ k, Okb 262 (F k)) ∧ Okb 262 N ∧ S ∈ sorts := by
  by_cases ek : kvs = []
  · subst ek
    refine ⟨_, _, _, .inl ⟨fun k => da.2.2.2.2 k rfl, rfl, rfl, rfl⟩, fun _ => okb_zero 261, ?_, by decide⟩
    split
    · exact okb_zero 261
    · exact Okb.mono (k := 1) ⟨by decide, by decide, by decide, by decide⟩ (by decide)
  · have ne : (kvs.map fun p => nmOf p.1) ≠ [] := fun z => ek (List.map_eq_nil_iff.mp z)
    have pos : 0 < (kvs.map fun p => nmOf p.1).length := List.length_pos_iff.mpr ne
    obtain ⟨b1, b2⟩ := best_txt (fun i => (kvs.map fun p => nmOf p.1).getD i "") ((kvs.map fun p => nmOf p.1).length - 1)
    generalize argBest _ _ = b at b1 b2
    have lt : b < (kvs.map fun p => nmOf p.1).length := by omega
    have lf : LeastF f ((kvs.map fun p => nmOf p.1).getD b "") := by
      refine least_of da ?_ fun j hj => ?_
      · rw [List.getD_eq_getElem?_getD, List.getElem?_eq_getElem lt]
        exact List.getElem_mem lt
      · obtain ⟨i, il, e⟩ := List.mem_iff_getElem.mp hj
        have e2 : (kvs.map fun p => nmOf p.1).getD i "" = j := by
          rw [List.getD_eq_getElem?_getD, List.getElem?_eq_getElem il, ← e]
          rfl
        rw [← e2]
        exact b2 i (by omega)
    generalize (kvs.map fun p => nmOf p.1).getD b "" = lk at lf
    have okL : ∀ q ∈ allN kvs f num, Okb 20 q := fun q hq => by
      rcases List.mem_append.mp hq with z | z
      · obtain ⟨p, _, rfl⟩ := List.mem_map.mp z
        exact okf _
      · rw [List.mem_singleton.mp z]
        exact okn
    have ln : (allN kvs f num).length = kvs.length + 1 := by
      unfold allN
      rw [List.length_append, List.length_map]
      rfl
    have kl := da.2.2.1
    obtain ⟨p1, p2, p3⟩ := prodB_ok _ okL
    have p2' : (prodB (allN kvs f num)).natAbs < 2 ^ 221 := sm_mono p2 (by rw [ln]; omega)
    generalize prodB (allN kvs f num) = B at p1 p2 p2' p3
    have hd : ∀ q ∈ allN kvs f num, 0 < q.2 ∧ q.2 ∣ B := fun q hq => ⟨(okL q hq).1, p3 q hq⟩
    have mem : f (.inr lk) ∈ allN kvs f num := by
      cases e : valV kvs (.inr lk) with
      | none =>
        have z := lf.1
        rw [da.2.2.2.2 _ e] at z
        exact absurd rfl z
      | some v =>
        obtain ⟨p, hp, e1⟩ := List.mem_map.mp (valV_in e)
        have e2 : p.1 = .inr lk := e1
        rw [← e2]
        exact List.mem_append.mpr (.inl (List.mem_map.mpr ⟨p, hp, rfl⟩))
    have oke := okf (.inr lk)
    have dd := hd _ mem
    have q3 : (B.fdiv (f (.inr lk)).2).natAbs < 2 ^ 221 := dv_lt dd.2 (Int.ne_of_gt oke.1) p2'
    rw [Int.fdiv_eq_ediv_of_nonneg _ (Int.le_of_lt oke.1)] at q3
    have nz : (f (.inr lk)).1 * (B / (f (.inr lk)).2) ≠ 0 := fun z => by
      rcases Int.mul_eq_zero.mp z with c | c
      · exact lf.1 c
      · obtain ⟨p0, x, hx⟩ := dd
        rw [hx, Int.mul_ediv_cancel_left _ (Int.ne_of_gt p0)] at c
        rw [c, Int.mul_zero] at hx
        omega
    have dv := gl_dvd (B := B) _ (allN kvs f num) rfl _ mem
    have le := Nat.le_of_dvd (Int.natAbs_pos.mpr nz) (Int.natAbs_dvd_natAbs.mpr dv)
    have gn : gl B (allN kvs f num) ≠ 0 := fun z => by
      rw [z] at dv
      exact nz (Int.zero_dvd.mp dv)
    have gi : ((gl B (allN kvs f num) : Nat) : Int) ≠ 0 := by omega
    have mk := mk_of p1 hd gn
    have okm : Okb 241 (fr1 B (gl B (allN kvs f num) : Int), fr2 B (gl B (allN kvs f num) : Int)) :=
      ⟨(lo_fr gi).1, sm_mono (Nat.lt_of_le_of_lt (fr1_le gi) p2') (by decide), Nat.lt_of_le_of_lt (fr2_le gi) (Nat.lt_of_le_of_lt le (sm_mono (sm_mul oke.2.1 q3) (by decide))), (lo_fr gi).2⟩
    have eq : toQ (fr1 B (gl B (allN kvs f num) : Int), fr2 B (gl B (allN kvs f num) : Int)) = (B : Rat) / ((gl B (allN kvs f num) : Nat) : Rat) := by
      rw [toQ_fr gi, Rat.divInt_eq_div, Rat.intCast_natCast]
    rw [← eq] at mk
    have okS : Okb 242 (signed (fr1 B (gl B (allN kvs f num) : Int), fr2 B (gl B (allN kvs f num) : Int)) (f (.inr lk))) := by
      unfold signed
      split
      · exact okm.mono (by decide)
      · exact okb_times okm okb_mone
    refine ⟨_, _, _, .inr ⟨lk, _, lf, lo_okb okm, okm, mkF_of da mk, rfl, rfl, rfl⟩, fun k => ?_, ?_, turnS_mem hs⟩
    · exact okb_times (okf k) okS
    · exact okb_times okn okS
section
variable {K : PySem.W.Frag}
theorem pl_split {m : Nat} {H : Hp} {a : Addr} {kvs : List (Key × V)} {f : Key → Int × Int} {srt : Str} {num : Int × Int} {B : Nat} {F : Key → Int × Int} {S : Str} {N : Int × Int} (da : DM True m H a kvs f) (h : Pl B f srt num F S N) :
    (kvs = [] → F = (fun _ => (0, 1)) ∧ S = "is" ∧ N = if keptB srt 0 (toQ num) then (0, 1) else (1, 1)) ∧
    (kvs ≠ [] → ∃ mp, Lo mp ∧ Okb B mp ∧ MkF (toQ mp) f num ∧ ∀ lk, LeastF f lk → F = (fun k => ftimes (f k) (signed mp (f (.inr lk)))) ∧ S = turnS (signed mp (f (.inr lk))) srt ∧ N = ftimes num (signed mp (f (.inr lk)))) := by
  rcases h with ⟨f0, e1, e2, e3⟩ | ⟨lk, mp, hl, lo, okm, mk, e1, e2, e3⟩
  · refine ⟨fun _ => ⟨e1, e2, e3⟩, fun ne => ?_⟩
    obtain ⟨p, r, rfl⟩ := List.exists_cons_of_ne_nil ne
    have z := (da.2.2.2.1 p List.mem_cons_self).2.2 trivial
    rw [f0] at z
    exact absurd rfl z
  · refine ⟨fun e => ?_, fun _ => ⟨mp, lo, okm, mk, fun l2 h2 => ?_⟩⟩
    · subst e
      have z := hl.1
      rw [da.2.2.2.2 _ rfl] at z
      exact absurd rfl z
    · rw [least_uniq h2 hl]
      exact ⟨e1, e2, e3⟩
theorem use_plain {r a : Addr} {kvs : List (Key × V)} {f : Key → Int × Int} {srt : Str} {num : Int × Int} {m A B : Nat} {H : Hp} {F : Key → Int × Int} {S : Str} {N : Int × Int} {Q : VK} {E : XK} (h : RowT K m H r a kvs f srt num) (okf : ∀ k, Okb A (f k)) (okn : Okb A num) (hm : m ≤ 10) (hA : A * (m + 1) ≤ 2950) (A1 : A ≤ 1400) (hB : B ≤ 2800) (pl : Pl B f srt num F S N)
    (q : ∀ H' r' a' ks, Same H H' → H r' = none → H a' = none → RowT K m H' r' a' ks F S N → Q (.ref r') H') : spPlain K [.ref r] H Q E := by
  obtain ⟨n, h1, da, h3, h4⟩ := id h
  obtain ⟨s1, s2⟩ := pl_split da pl
  refine ⟨r, a, kvs, f, srt, num, m, A, rfl, h, okf, okn, hm, hA, A1, fun e H' r' a' s n1 n2 row => ?_, fun e => ?_⟩
  · obtain ⟨rfl, rfl, rfl⟩ := s1 e
    exact q H' r' a' [] s n1 n2 row
  · obtain ⟨mp, lo, okm, mk, z⟩ := s2 e
    refine ⟨mp, B, lo, okm, hB, mk, fun lk hl H' r' a' ks s n1 n2 row => ?_⟩
    obtain ⟨rfl, rfl, rfl⟩ := z lk hl
    exact q H' r' a' ks s n1 n2 row
theorem use_lplain {r a : Addr} {kvs : List (Key × V)} {f : Key → Int × Int} {srt : Str} {num : Int × Int} {m A B : Nat} {H : Hp} {F : Key → Int × Int} {S : Str} {N : Int × Int} {Q : VK} {E : XK} (h : RowT K m H r a kvs f srt num) (okf : ∀ k, Okb A (f k)) (okn : Okb A num) (hm : m ≤ 10) (hA : A * (m + 2) ≤ 900) (hB : B ≤ 800) (pl : Pl B f srt num F S N)
    (q : ∀ H' r' a' ks, Same H H' → H r' = none → H a' = none → RowT K m H' r' a' ks F S N → Q (.ref r') H') : spLPlain K [.ref r] H Q E := by
  obtain ⟨n, h1, da, h3, h4⟩ := id h
  obtain ⟨s1, s2⟩ := pl_split da pl
  refine ⟨r, a, kvs, f, srt, num, m, A, rfl, h, okf, okn, hm, hA, fun e H' r' a' s n1 n2 row => ?_, fun e => ?_⟩
  · obtain ⟨rfl, rfl, rfl⟩ := s1 e
    exact q H' r' a' [] s n1 n2 row
  · obtain ⟨mp, lo, okm, mk, z⟩ := s2 e
    refine ⟨mp, B, lo, okm, hB, mk, fun lk hl H' r' a' ks s n1 n2 row => ?_⟩
    obtain ⟨rfl, rfl, rfl⟩ := z lk hl
    exact q H' r' a' ks s n1 n2 row
end
end SS
namespace SS
open PySem PySem.Spec PyProof.Rows L2
theorem dm_build {m : Nat} {H : Hp} {c : Addr} {ks : List (Key × V)} (hc : H c = some (.dK ks)) (nd : (ks.map (·.1)).Nodup) (hl : ks.length ≤ m) (ent : ∀ p ∈ ks, (∃ x, p.1 = .inr x ∧ NmOk x) ∧ ∃ (r : Addr) (M : Int × Int), p.2 = .ref r ∧ H r = some (.tup [.int M.1, .int M.2]) ∧ Okb 11 M) :
    DM False m H c ks (pval H ks) ∧ ∀ k, Okb 11 (pval H ks k) := by
  have fv : ∀ {r : Addr} {M : Int × Int}, H r = some (.tup [.int M.1, .int M.2]) → fval H (.ref r) = M := fun {r M} e => by
    unfold fval
    simp only [e]
  refine ⟨⟨hc, nd, hl, fun p hp => ?_, fun k e => ?_⟩, fun k => ?_⟩
  · obtain ⟨e1, r, M, e2, e3, _⟩ := ent p hp
    refine ⟨e1, ⟨r, e2, ?_⟩, fun z => z.elim⟩
    have ev : valV ks p.1 = some p.2 := val_nodup nd p hp
    have pv' : pval H ks p.1 = M := by
      unfold pval
      rw [ev, e2]
      exact fv e3
    rw [pv']
    exact e3
  · unfold pval
    rw [e]
  · unfold pval
    cases e : valV ks k with
    | none => exact okb_zero 10
    | some v =>
      obtain ⟨p, hp, _, e2⟩ := mem_valV e
      obtain ⟨_, r, M, e3, e4, ok⟩ := ent p hp
      have ev : v = .ref r := by rw [← e2, e3]
      rw [ev]
      show Okb 11 (fval H (.ref r))
      rw [fv e4]
      exact ok
section
variable {P : Program} {w : World} {K : PySem.W.Frag} {mg : Str → Option Value} {base : Heap}
def spShort2 (K : PySem.W.Frag) : Sp := fun vs H Q _ => ∃ (p : Addr) (N : Int × Int), vs = [.ref p] ∧ FrT K H p N.1 N.2 ∧ Okb 3000 N ∧ ∀ H' r (M : Int × Int), Same H H' → FrT K H' r M.1 M.2 → (H p = some (.tup [.int N.1, .int N.2]) → H' r = some (.tup [.int M.1, .int M.2])) → Okb 11 M → Q (.ref r) H'
theorem ok_short2 {f' : Addr} {fd : FuncData} {k : Nat} (F : Fun K "_law_short" "_law_short" sShort f' fd) (ma : mg "abs" = none) : FnOk P w K mg base CX0 (k + 1) f' fd ["_law_number_here"] (spShort2 K) := by
  refine F.ok scShort (fun vs H Q E h => ?_) (fun cdv A' outer s H vs Q E hr h => ?_)
  · obtain ⟨_, _, rfl, _⟩ := h
    rfl
  · obtain ⟨p, N, rfl, fp, ok, q⟩ := h
    refine ⟨_, pss_cons (ps_if (PW.pt (pw_and (pt_cmpR op_lt (pe_callB call_abs (by rfl) ma boot_abs (pa_cons (pe_ix ix_tup (pv 0) pe_int (fun _ _ => rfl)) pa_nil)) pe_int (nomark _)) (pw_and1 (pt_cmpR op_lt (pe_ix ix_tup (pv 0) pe_int (fun _ _ => rfl)) pe_int (nomark _))))) (pss_one (ps_ret (pv 0))) pss_nil)
      (pss_one (ps_ret (pe_tup (pa_cons (pe_op op_sub (pe_op op_mod (pe_op op_fdivG (pe_ix ix_tup (pv 0) pe_int (fun _ _ => rfl)) (pe_ix ix_tup (pv 0) pe_int (fun _ _ => rfl))) pe_int) pe_int) (pa_cons pe_int pa_nil))))), ?_⟩
    obtain ⟨v, ev, bv⟩ : ∃ (v : Int), v = (N.1.fdiv N.2) % 1999 - 999 ∧ v.natAbs < 2 ^ 11 := ⟨_, rfl, by omega⟩
    refine ⟨_, rfl, p, _, 0, _, rfl, rfl, fp.1, atI_nat (j := 0) rfl, _, rfl, _, 1000, rfl, rfl, _, rfl, ite2 (fun e => ?n1) (fun e => iteF ?ex1)⟩
    case' n1 => refine ⟨_, rfl, p, _, 1, _, rfl, rfl, fp.1, atI_nat (j := 1) rfl, _, 100, rfl, rfl, _, rfl, ite2 (fun e2 => ?y) (fun e2 => ?ex2)⟩
    case y =>
      have a1 : (if N.1 < 0 then -N.1 else N.1) < 1000 := of_decide_eq_true e
      have a2 : N.2 < 100 := of_decide_eq_true e2
      have a3 := ok.1
      have a4 : N.1.natAbs < 2048 := by
        split at a1 <;> omega
      refine ⟨_, rfl, q H p N (Same.refl _) fp id ⟨ok.1, a4, ?_, ok.2.2.2⟩⟩
      show N.2.natAbs < 2048
      omega
    case ex1 | ex2 =>
      refine ⟨_, rfl, p, _, 0, _, rfl, rfl, fp.1, atI_nat (j := 0) rfl, _, rfl, p, _, 1, _, rfl, rfl, fp.1, atI_nat (j := 1) rfl, N.1, N.2, rfl, rfl, ⟨Int.ne_of_gt ok.1, logOf (by decide) ok.2.2.1 (by decide)⟩, _, 1999, rfl, rfl, (by show (0 : Int) < 1999; decide), _, 999, rfl, rfl, small2, fun r nr => ?_⟩
      have hr : (upd H r (.tup [.int v, .int 1])) r = some (.tup [.int v, .int 1]) := upd_same
      rw [ev] at hr
      refine q _ r (v, 1) (same_new nr) ?_ (fun _ => ?_) (okb_whole bv)
      · rw [ev]
        exact FrT.of upd_same
      · rw [ev]
        exact upd_same
/-- both, over what the plain row is -/
def spPlain2 (K : PySem.W.Frag) : Sp := fun vs H Q _ => ∃ (r a : Addr) (kvs : List (Key × V)) (f : Key → Int × Int) (srt : Str) (num : Int × Int) (m A B : Nat) (F : Key → Int × Int) (S : Str) (N : Int × Int), vs = [.ref r] ∧ RowT K m H r a kvs f srt num ∧
  (∀ k, Okb A (f k)) ∧ Okb A num ∧ m ≤ 10 ∧ A * (m + 1) ≤ 2950 ∧ A ≤ 1400 ∧ B ≤ 2800 ∧ Pl B f srt num F S N ∧ ∀ H' r' a' ks, Same H H' → H r' = none → H a' = none → RowT K m H' r' a' ks F S N → Q (.ref r') H'
def spLPlain2 (K : PySem.W.Frag) : Sp := fun vs H Q _ => ∃ (r a : Addr) (kvs : List (Key × V)) (f : Key → Int × Int) (srt : Str) (num : Int × Int) (m A B : Nat) (F : Key → Int × Int) (S : Str) (N : Int × Int), vs = [.ref r] ∧ RowT K m H r a kvs f srt num ∧
  (∀ k, Okb A (f k)) ∧ Okb A num ∧ m ≤ 10 ∧ A * (m + 2) ≤ 900 ∧ B ≤ 800 ∧ Pl B f srt num F S N ∧ ∀ H' r' a' ks, Same H H' → H r' = none → H a' = none → RowT K m H' r' a' ks F S N → Q (.ref r') H'
theorem ok_plain2 {f' aN aO aM C : Addr} {fd : FuncData} (F : Fun K "plain_row" "plain_row" sPlain f' fd) (mm : mg "min" = none) (gN : mg "NOUGHT" = some (.ref aN)) (hN : ∀ H, FrT K H aN 0 1) (gO : mg "ONE" = some (.ref aO)) (hO : ∀ H, FrT K H aO 1 1) (gM : mg "MINUS_ONE" = some (.ref aM)) (hM : ∀ H, FrT K H aM (-1) 1)
    (ke : Cl P w K mg base CX0 6 "keeps" (spKeeps K) []) (wm : Cl P w K mg base CX0 3 "whole_maker" (spMaker K) []) (rt : Cl P w K mg base (L2.CX P w) 5 "row_times" (spRowTimes K C) []) (tm : Cl P w K mg base CX0 3 "times" (spTimes K) []) : FnOk P w K mg base (L2.CX P w) 7 f' fd ["row"] (spPlain2 K) :=
  (ok_plain F mm gN hN gO hO gM hM ke wm rt tm).imp fun vs H Q E h => by
    obtain ⟨r, a, kvs, f, srt, num, m, A, B, F', S, N, rfl, h1, h2, h3, h4, h5, h6, h7, h8, h9⟩ := h
    exact use_plain h1 h2 h3 h4 h5 h6 h7 h8 h9
theorem ok_lplain2 {f' : Addr} {fd : FuncData} (F : Fun K "_law_plain" "_law_plain" sLPlain f' fd) (mm : mg "min" = none) (mi : mg "int" = none)
    (ke : Cl P w K mg base CX0 5 "_law_keeps" (spKeeps K) []) (sh : Cl P w K mg base CX0 1 "_law_shared" spGcd []) (ad : Cl P w K mg base CX0 4 "_law_add" (spAdd K) []) (fc : Cl P w K mg base CX0 2 "_law_frac" spFrac []) (tm : Cl P w K mg base CX0 3 "_law_times" (spTimes K) []) : FnOk P w K mg base CX0 6 f' fd ["_law_row"] (spLPlain2 K) :=
  (ok_lplain F mm mi ke sh ad fc tm).imp fun vs H Q E h => by
    obtain ⟨r, a, kvs, f, srt, num, m, A, B, F', S, N, rfl, h1, h2, h3, h4, h5, h6, h7, h8⟩ := h
    exact use_lplain h1 h2 h3 h4 h5 h6 h7 h8
end
end SS
namespace SS
open PySem PySem.Spec PyProof.Rows L2
/-! ### rows compared that may differ: one truth value -/
theorem nd_len {α : Type} [DecidableEq α] : ∀ (L M : List α), L.Nodup → L ⊆ M → L.length ≤ M.length
  | [], _, _, _ => Nat.zero_le _
  | x :: t, M, nd, sb => by
    have hx : x ∈ M := sb List.mem_cons_self
    have nx := List.nodup_cons.mp nd
    have ih := nd_len t (M.erase x) nx.2 fun y hy => (List.mem_erase_of_ne (fun e : y = x => nx.1 (by rw [← e]; exact hy))).mpr (sb (List.mem_cons_of_mem _ hy))
    rw [List.length_erase_of_mem hx] at ih
    have : 0 < M.length := List.length_pos_of_mem hx
    rw [List.length_cons]
    omega
section
variable {X : Cx} {pins : List (Addr × Obj)} {σ : L2.St} {H : Hp} {s : Shared}
theorem eqp_int {A : Around} {i j : Int} {v u : Value} (rx : RelV (.int i) v) (ry : RelV (.int j) u) : SeqAt.EqP X.prog X.w A s v u (decide (i = j)) := by
  obtain ⟨t, rfl⟩ := (show ∃ t, v = Value.int i t from rx)
  obtain ⟨t', rfl⟩ := (show ∃ t, u = Value.int j t from ry)
  have q := SeqAt.EqAt.int_int (A := A) (s := s) i t j t'
  rw [show (i == j) = decide (i = j) from rfl] at q
  exact q.eqP
theorem eqp_str {A : Around} {i j : Str} {v u : Value} (rx : RelV (.str i) v) (ry : RelV (.str j) u) : SeqAt.EqP X.prog X.w A s v u (decide (i = j)) := by
  obtain ⟨t, rfl⟩ := (show ∃ t, v = Value.str i t from rx)
  obtain ⟨t', rfl⟩ := (show ∃ t, u = Value.str j t from ry)
  have q := SeqAt.EqAt.str_str (A := A) (s := s) i t j t'
  rw [show (i == j) = decide (i = j) from by by_cases c : i = j <;> simp [c]] at q
  exact q.eqP
theorem tup_uniq {p : Addr} {us ws : Array Value} (h1 : s.heap.IsTuple p us) (h2 : s.heap.IsTuple p ws) : us = ws := by
  obtain ⟨o1, a1, b1, n1, c1⟩ := h1
  obtain ⟨o2, a2, b2, n2, c2⟩ := h2
  have e : o1 = o2 := Option.some.inj (a1.symm.trans a2)
  rw [e, c2] at c1
  have z := c1
  injection z with z1 z2
  exact z1.symm
theorem eqp_fr (I : Inv X pins σ H s) {A : Around} (hu : A.units < cLine) {p q : Addr} {a b : Int × Int} (fp : FrT X.K H p a.1 a.2) (fq : FrT X.K H q b.1 b.2) : SeqAt.EqP X.prog X.w A s (.ref p) (.ref q) (decide (a = b)) := by
  obtain ⟨us, r1, p1, _⟩ := I.tuple fp.1
  obtain ⟨ws, r2, p2, _⟩ := I.tuple fq.1
  obtain ⟨u0, u1, rfl, x0, x1⟩ := vals2 r1
  obtain ⟨w0, w1, rfl, y0, y1⟩ := vals2 r2
  by_cases e : p = q
  · subst e
    have z := tup_uniq p1 p2
    have ab : a = b := by
      obtain ⟨t, rfl⟩ := (show ∃ t, u0 = Value.int a.1 t from x0)
      obtain ⟨t', rfl⟩ := (show ∃ t, u1 = Value.int a.2 t from x1)
      obtain ⟨t2, rfl⟩ := (show ∃ t, w0 = Value.int b.1 t from y0)
      obtain ⟨t3, rfl⟩ := (show ∃ t, w1 = Value.int b.2 t from y1)
      simp at z
      exact Prod.ext z.1.1 z.2.1
    rw [decide_eq_true ab]
    exact (SeqAt.EqAt.same _).eqP
  · refine SeqAt.eqP_refs e fun E Q q => ?_
    refine SeqAt.rcIn_tuples (e := fun j => if j = 0 then decide (a.1 = b.1) else decide (a.2 = b.2)) p1 p2 hu (fun j h1 h2 => ?_) ?_
    · match j, h1 with
      | 0, _ => exact eqp_int (X := X) x0 y0
      | 1, _ => exact eqp_int (X := X) x1 y1
      | n + 2, h => exact absurd h (by simp)
    · have e2 : ((List.range (min [u0, u1].toArray.size [w0, w1].toArray.size)).all (fun j => if j = 0 then decide (a.1 = b.1) else decide (a.2 = b.2)) && [u0, u1].toArray.size == [w0, w1].toArray.size) = decide (a = b) := by
        show ((List.range 2).all _ && true) = _
        rw [Bool.and_true]
        show (decide (a.1 = b.1) && (decide (a.2 = b.2) && true)) = _
        rw [Bool.and_true, ← Bool.decide_and]
        exact decide_eq_decide.mpr ⟨fun h => Prod.ext h.1 h.2, fun h => by rw [h]; exact ⟨rfl, rfl⟩⟩
      rw [e2]
      exact q
theorem hits_dm (I : Inv X pins σ H s) {A : Around} (hu : A.units < cLine) {z : Prop} {m : Nat} {b : Addr} {ls : List (Key × V)} {f g : Key → Int × Int} (h : DM z m H b ls g) {vb : List (Key × Value)} (rb : KV ls vb) {ks : List (Key × V)} {va : List (Key × Value)} (ra : KV ks va) :
    (∀ p ∈ ks, ∃ r, p.2 = .ref r ∧ H r = some (.tup [.int (f p.1).1, .int (f p.1).2])) → PySem.W.KeqHitsP X.prog X.w A s vb va (ks.all fun p => (valV ls p.1).isSome && decide (f p.1 = g p.1)) := by
  unfold KV at ra
  induction ra with
  | nil => intro _; exact .nil
  | @cons p q ps qs h0 t k =>
    intro hp
    obtain ⟨h1, h2⟩ := h0
    obtain ⟨r, e, er⟩ := hp p List.mem_cons_self
    obtain ⟨key, v⟩ := q
    have h1' : p.1 = key := h1
    rw [List.all_cons]
    have rr : RelO (valV ls p.1) (valueAt vb p.1) := rb.val p.1
    cases ev : valV ls p.1 with
    | none =>
      rw [ev] at rr
      have hy : valueAt vb p.1 = none := rr.none_of
      rw [h1'] at hy
      exact .miss hy
    | some u =>
      rw [ev] at rr
      obtain ⟨y, hy, ry⟩ := rr.some_of
      rw [h1'] at hy
      obtain ⟨r', rfl, er'⟩ := h.get ev
      rw [e] at h2
      have hv : v = Value.ref r := h2
      have hy' : y = Value.ref r' := ry
      subst hv hy'
      show PySem.W.KeqHitsP X.prog X.w A s vb ((key, _) :: qs) ((true && decide (f p.1 = g p.1)) && _)
      rw [Bool.true_and]
      exact .hit hy (eqp_fr I hu (FrT.of er) (FrT.of er')) (k fun p' hm => hp p' (List.mem_cons_of_mem _ hm))
theorem eqp_dm (I : Inv X pins σ H s) {A : Around} (hu : A.units + 2 < cLine) {m m' : Nat} {a b : Addr} {kvs ls : List (Key × V)} {f g : Key → Int × Int} (h : DM True m H a kvs f) (h' : DM True m' H b ls g) : ∃ e : Bool, (e = true ↔ f = g) ∧ SeqAt.EqP X.prog X.w A s (.ref a) (.ref b) e := by
  by_cases ab : a = b
  · subst ab
    have ek : kvs = ls := HO.dK.inj (Option.some.inj (h.1.symm.trans h'.1))
    subst ek
    have fg : f = g := funext fun k => by
      cases e : valV kvs k with
      | none => rw [h.2.2.2.2 k e, h'.2.2.2.2 k e]
      | some v =>
        obtain ⟨r, e1, e2⟩ := h.get e
        obtain ⟨r', e3, e4⟩ := h'.get e
        have er : r = r' := V.ref.inj (e1.symm.trans e3)
        rw [← er, e2] at e4
        have z := HO.tup.inj (Option.some.inj e4)
        have z1 := V.int.inj (List.cons.inj z).1
        have z2 := V.int.inj (List.cons.inj (List.cons.inj z).2).1
        exact Prod.ext z1 z2
    exact ⟨true, ⟨fun _ => fg, fun _ => rfl⟩, (SeqAt.EqAt.same _).eqP⟩
  · refine ⟨kvs.length == ls.length && kvs.all fun p => (valV ls p.1).isSome && decide (f p.1 = g p.1), ⟨fun e => ?_, fun e => ?_⟩, ?_⟩
    · rw [Bool.and_eq_true, beq_iff_eq, List.all_eq_true] at e
      obtain ⟨hl, ha⟩ := e
      have inb : ∀ p ∈ kvs, p.1 ∈ ls.map (·.1) ∧ f p.1 = g p.1 := fun p hp => by
        have z := ha p hp
        rw [Bool.and_eq_true, decide_eq_true_iff] at z
        obtain ⟨v, hv⟩ := Option.isSome_iff_exists.mp z.1
        exact ⟨valV_in hv, z.2⟩
      have sub : kvs.map (·.1) ⊆ ls.map (·.1) := fun k hk => by
        obtain ⟨p, hp, e⟩ := List.mem_map.mp hk
        rw [← e]
        exact (inb p hp).1
      have back : ls.map (·.1) ⊆ kvs.map (·.1) := by
        intro k hk
        refine Classical.byContradiction fun nk => ?_
        have nd : (k :: kvs.map (·.1)).Nodup := List.nodup_cons.mpr ⟨nk, h.2.1⟩
        have sb : (k :: kvs.map (·.1)) ⊆ ls.map (·.1) := fun x hx => by
          rcases List.mem_cons.mp hx with c | c
          · rw [c]
            exact hk
          · exact sub c
        have le := nd_len _ _ nd sb
        rw [List.length_cons, List.length_map, List.length_map] at le
        omega
      funext k
      cases e : valV kvs k with
      | some v =>
        obtain ⟨p, hp, e1⟩ := List.mem_map.mp (valV_in e)
        have e1' : p.1 = k := e1
        rw [← e1']
        exact (inb p hp).2
      | none =>
        cases e2 : valV ls k with
        | none => rw [h.2.2.2.2 k e, h'.2.2.2.2 k e2]
        | some v =>
          obtain ⟨p, hp, e3⟩ := List.mem_map.mp (back (valV_in e2))
          have e3' : p.1 = k := e3
          have z := val_nodup h.2.1 p hp
          rw [e3', e] at z
          cases z
    · subst e
      obtain ⟨x, y, kx, ky, e1, e2, hx, hy, hl, hp⟩ := deq_of h h'
      cases e1
      cases e2
      have ekx : kx = kvs := HO.dK.inj (Option.some.inj (hx.symm.trans h.1))
      have eky : ky = ls := HO.dK.inj (Option.some.inj (hy.symm.trans h'.1))
      subst ekx eky
      rw [Bool.and_eq_true, beq_iff_eq, List.all_eq_true]
      refine ⟨hl, fun p hpm => ?_⟩
      obtain ⟨u, eu, _⟩ := hp p hpm
      rw [eu]
      simp
    · refine SeqAt.eqP_refs ab fun E Q q => ?_
      obtain ⟨_, ya, va, ra, da⟩ := (show ObjOk X.prog X.w H s.heap a (.dK kvs) from I.hok a _ h.1)
      obtain ⟨_, yb, vb, rb, db⟩ := (show ObjOk X.prog X.w H s.heap b (.dK ls) from I.hok b _ h'.1)
      refine PySem.W.rcP_dicts (knd := mixKind X.prog X.w) ya yb da db (by omega) (fun _ => hits_dm (f := f) I (A := A.in1) (by show A.units + 1 < cLine; omega) h' rb ra fun p hp => (h.2.2.2.1 p hp).2.1) E Q ?_
      have e1 : va.length = kvs.length := ra.length.symm
      have e2 : vb.length = ls.length := rb.length.symm
      rw [e1, e2]
      exact q
/-- one row == another: the truth value of their being alike -/
def rEqRow (K : PySem.W.Frag) : R2 := fun x y H Q => ∃ (r r' a a' : Addr) (kvs ls : List (Key × V)) (f f' : Key → Int × Int) (srt srt' : Str) (num num' : Int × Int) (m m' : Nat), x = .ref r ∧ y = .ref r' ∧ r ≠ r' ∧ RowT K m H r a kvs f srt num ∧ RowT K m' H r' a' ls f' srt' num' ∧
  ∀ e : Bool, (e = true ↔ f = f' ∧ srt = srt' ∧ num = num') → Q (.bl e) H
theorem op_eqRow (hu : X.A.units + 64 < cLine) : OpR X (compareOp .Eq) (rEqRow X.K) := by
  intro pins s σ H x y v u Q I rx ry h
  obtain ⟨r, r', a, a', kvs, ls, f, f', srt, srt', num, num', m, m', rfl, rfl, ne, ⟨n, h1, d1, f1, _⟩, ⟨n', h2, d2, f2, _⟩, q⟩ := h
  cases (show v = Value.ref r from rx)
  cases (show u = Value.ref r' from ry)
  obtain ⟨us, r1, p1, _⟩ := I.tuple (SqT.of h1)
  obtain ⟨ws, r2, p2, _⟩ := I.tuple (SqT.of h2)
  obtain ⟨e0, he0, k0⟩ := eqp_dm I (A := X.A.in1) (by show X.A.units + 1 + 2 < cLine; omega) d1 d2
  cases r1 with
  | cons x0 r1 =>
  cases r1 with
  | cons x1 r1 =>
  cases r1 with
  | cons x2 r1 =>
  cases r1
  cases r2 with
  | cons y0 r2 =>
  cases r2 with
  | cons y1 r2 =>
  cases r2 with
  | cons y2 r2 =>
  cases r2
  rename_i u0 u1 u2 w0 w1 w2
  cases (show u0 = Value.ref a from x0)
  cases (show u2 = Value.ref n from x2)
  cases (show w0 = Value.ref a' from y0)
  cases (show w2 = Value.ref n' from y2)
  refine SeqAt.rcIn_tuples (A := X.A) (e := fun j => if j = 0 then e0 else if j = 1 then decide (srt = srt') else decide (num = num')) p1 p2 (by omega) (fun j h1 h2 => ?_) ?_
  · match j, h1 with
    | 0, _ => exact k0
    | 1, _ => exact eqp_str (X := X) x1 y1
    | 2, _ => exact eqp_fr I (A := X.A.in1) (by show X.A.units + 1 < cLine; omega) f1 f2
    | n + 3, h => exact absurd h (by simp)
  · refine ⟨.bl (e0 && (decide (srt = srt') && decide (num = num'))), H, I, ?_, q _ ?_⟩
    · show Value.bool _ = _
      simp [List.range_succ, Bool.and_assoc]
    · rw [Bool.and_eq_true, Bool.and_eq_true, he0, decide_eq_true_iff, decide_eq_true_iff]
end
end SS
namespace SS
open PySem PySem.Spec PyProof.Rows L2
section
variable {P : Program} {w : World} {K : PySem.W.Frag} {mg : Str → Option Value} {base : Heap}
/-- a row with what its plain row is -/
def RowP (K : PySem.W.Frag) (H : Hp) (r : Addr) (F : Key → Int × Int) (S : Str) (N : Int × Int) : Prop := ∃ (a : Addr) (kvs : List (Key × V)) (f : Key → Int × Int) (srt : Str) (num : Int × Int) (A B : Nat), RowT K 10 H r a kvs f srt num ∧ (∀ k, Okb A (f k)) ∧ Okb A num ∧ A * 11 ≤ 2950 ∧ A ≤ 1400 ∧ B ≤ 2800 ∧ Pl B f srt num F S N
theorem RowP.same {H H' : Hp} {r : Addr} {F : Key → Int × Int} {S : Str} {N : Int × Int} (h : RowP K H r F S N) (s : Same H H') : RowP K H' r F S N := by
  obtain ⟨a, kvs, f, srt, num, A, B, h1, h2⟩ := h
  exact ⟨a, kvs, f, srt, num, A, B, h1.same s, h2⟩
def spSame (K : PySem.W.Frag) : Sp := fun vs H Q _ => ∃ (r r' : Addr) (F F' : Key → Int × Int) (S S' : Str) (N N' : Int × Int), vs = [.ref r, .ref r'] ∧ RowP K H r F S N ∧ RowP K H r' F' S' N' ∧ ∀ (H' : Hp) (e : Bool), Same H H' → (e = true ↔ F = F' ∧ S = S' ∧ N = N') → Q (.bl e) H'
theorem scSame : FnScope ["one", "other"] ["one", "other"] (defScope sSameRow) := ⟨rfl, rfl, rfl, by decide +kernel, rfl, by decide +kernel, by decide +kernel⟩
theorem ok_same {f' : Addr} {fd : FuncData} (F : Fun K "same_row" "same_row" sSameRow f' fd) (pr : Cl P w K mg base (L2.CX P w) 7 "plain_row" (spPlain2 K) []) : FnOk P w K mg base (L2.CX P w) 8 f' fd ["one", "other"] (spSame K) := by
  refine F.okX scSame (fun vs H Q E h => ?_) (fun cdv A' outer s H vs Q E hr h => ?_)
  · obtain ⟨_, _, _, _, _, _, _, _, rfl, _⟩ := h
    rfl
  · obtain ⟨r, r', G, G', S, S', N, N', rfl, h1, h2, q⟩ := h
    refine ⟨_, pss_one (ps_ret (pe_cmpR (op_eqRow hr.units) (pcX pr hr (by decide) (pa_cons (pv 0) pa_nil)) (pcX pr hr (by decide) (pa_cons (pv 1) pa_nil)) (nomark _))), ?_⟩
    obtain ⟨a, kvs, f, srt, num, A, B, c1, c2, c3, c4, c5, c6, c7⟩ := h1
    refine ⟨_, rfl, r, a, kvs, f, srt, num, 10, A, B, G, S, N, rfl, c1, c2, c3, by decide, c4, c5, c6, c7, fun H1 p1 b1 k1 s1 n1 _ R1 => ?_⟩
    obtain ⟨a', kvs', f', srt', num', A2, B2, d1, d2, d3, d4, d5, d6, d7⟩ := h2.same s1
    refine ⟨_, rfl, r', a', kvs', f', srt', num', 10, A2, B2, G', S', N', rfl, d1, d2, d3, by decide, d4, d5, d6, d7, fun H2 p2 b2 k2 s2 n2 _ R2 => ?_⟩
    have ne : p1 ≠ p2 := ne_of_none R1.choose_spec.1 n2
    exact ⟨p1, p2, b1, b2, k1, k2, _, _, _, _, _, _, 10, 10, rfl, rfl, ne, R1.same s2, R2, fun e he => q H2 e (s1.trans s2) he⟩
end
end SS
namespace SS
open PySem PySem.Spec PyProof.Rows L2
section
variable {P : Program} {w : World} {K : PySem.W.Frag} {mg : Str → Option Value} {base : Heap}
theorem RowT.dm {m : Nat} {H : Hp} {r a : Addr} {kvs : List (Key × V)} {f : Key → Int × Int} {srt : Str} {num : Int × Int} (h : RowT K m H r a kvs f srt num) : DM True m H a kvs f := h.choose_spec.2.1
def spBnd (K : PySem.W.Frag) : Sp := fun vs H Q _ => ∃ (r a : Addr) (kvs : List (Key × V)) (f : Key → Int × Int) (srt : Str) (num : Int × Int) (m : Nat), vs = [.ref r] ∧ RowT K m H r a kvs f srt num ∧ (∀ k, Okb 3000 (f k)) ∧ Okb 3000 num ∧ m ≤ 10 ∧
  ∀ H' r' a' ks g num', Same H H' → RowT K m H' r' a' ks g srt num' → (∀ k, Okb 11 (g k)) → Okb 11 num' → Q (.ref r') H'
theorem scBnd : FnScope ["_law_row", "_law_one", "_law_key"] ["_law_row"] (defScope sBounded) := ⟨rfl, rfl, rfl, by decide +kernel, rfl, by decide +kernel, by decide +kernel⟩
set_option maxHeartbeats 4000000 in
theorem ok_bnd {f' : Addr} {fd : FuncData} (F : Fun K "_law_bounded" "_law_bounded" sBounded f' fd) (md : mg "dict" = none) (ad : Cl P w K mg base CX0 4 "_law_add" (spAdd K) []) (so : Cl P w K mg base CX0 1 "_law_short" (spShort2 K) []) : FnOk P w K mg base CX0 5 f' fd ["_law_row"] (spBnd K) := by
  refine F.ok scBnd (fun vs H Q E h => ?_) (fun cdv A' outer s H vs Q E hr h => ?_)
  · obtain ⟨_, _, _, _, _, _, _, rfl, _⟩ := h
    rfl
  · obtain ⟨r, a, kvs, f, srt, num, m, rfl, ⟨pn, g1, da, g3, hs⟩, okf, okn, hm, q⟩ := h
    have hu := hu_of hr
    refine ⟨_, pss_cons (ps_set (i := 1) scBnd.nd rfl (.inl rfl) (pe_callTy (call_dictP rfl) (by rfl) md (by decide +kernel) (pa_cons (pe_lock (pe_lc (own := [("_law_key", 2)]) (g := gName 2) (tt := tYes) rfl scBnd.nd (pi_keys (pe_ix ix_tup (pv 0) pe_int (fun _ _ => rfl))) (blkOk_by (by rfl))
              (fun _ _ _ _ _ => pg_name (i := 2) scBnd.nd rfl (Or.inl rfl)) (fun _ _ _ _ _ => pts_nil)
              (fun _ _ _ _ _ => pe_tup (pa_cons (pv 2) (pa_cons (pc0 so hr (by decide) (pa_cons (pe_dget hu (pe_ix (ix_tupK (K := K) rfl) (pv 0) pe_int (fun _ _ => rfl)) (pv 2) (fun _ _ => rfl)) pa_nil)) pa_nil))))) pa_nil)))
      (pss_one (ps_ret (pe_tup (pa_cons (pc0 ad hr (by decide) (pa_cons pe_dnewK (pa_cons (pv 1) (pa_cons (pe_tup (pa_cons pe_int (pa_cons pe_int pa_nil))) pa_nil)))) (pa_cons (pe_ix ix_tup (pv 0) pe_int (fun _ _ => rfl)) (pa_cons (pc0 so hr (by decide) (pa_cons (pe_ix ix_tup (pv 0) pe_int (fun _ _ => rfl)) pa_nil)) pa_nil)))))), ?_⟩
    have Rc : r ≠ a := fun z => by
      rw [z, da.1] at g1
      cases g1
    refine ⟨a, .dK kvs, da.1, trivial, fun od => ⟨_, rfl, r, _, 0, _, rfl, rfl, SqT.of (by rw [upd_ne Rc]; exact g1), atI_nat (j := 0) rfl, a, od, rfl, .inl ⟨kvs, upd_same, fun D2 nD2 => ?_⟩⟩⟩
    have nDH : H D2 = none := by
      cases e : H D2 with
      | none => rfl
      | some o =>
        by_cases c : D2 = a
        · rw [c, upd_same] at nD2
          cases nD2
        · rw [upd_ne c, e] at nD2
          cases nD2
    have cD : a ≠ D2 := ne_of_none da.1 nDH
    have kl := da.2.2.1
    refine lc_it walk_keys (fun i H' => ∃ (ts : List Addr) (ks : List (Key × V)), H' D2 = some (.lst (ts.map V.ref)) ∧ H' a = some (.frz od (.dK kvs)) ∧ (∀ x o, x ≠ a → x ≠ D2 → H x = some o → H' x = some o) ∧ ks.map (·.1) = (kvs.take i).map (·.1) ∧ ts.length = i ∧
        Paired (fun (t : Addr) (q : Key × V) => H' t = some (.tup [kV q.1, q.2])) ts ks ∧ ∀ p ∈ ks, ∃ (r' : Addr) (M : Int × Int), p.2 = .ref r' ∧ H' r' = some (.tup [.int M.1, .int M.2]) ∧ Okb 11 M)
      ⟨[], [], upd_same, by rw [upd_ne cD]; exact upd_same, fun x o n1 n2 e => by rw [upd_ne n2, upd_ne n1]; exact e, rfl, rfl, .nil, fun p hp => by cases hp⟩ (fun _ _ _ ⟨_, _, _, w2, _⟩ => w2) ?_ ?_
    · rintro i y H12 H' hi ⟨ts, ks, w1, w2, w3, w4, w5, w6, w7⟩ ⟨rfl, key', v, hkv, rfl⟩
      obtain ⟨⟨nx, e1, okx⟩, ⟨rv, e2, e3⟩, _⟩ := da.2.2.2.1 (key', v) (List.mem_of_getElem? hkv)
      have e2' : v = .ref rv := e2
      have e1' : key' = .inr nx := e1
      subst e2' e1'
      have ev : valV kvs (.inr nx) = some (.ref rv) := val_nodup da.2.1 (.inr nx, .ref rv) (List.mem_of_getElem? hkv)
      have dg : DGet H' a (kV (.inr nx)) (some (.ref rv)) := .inl ⟨kvs, .inr nx, .inr ⟨od, w2⟩, rfl, ev.symm⟩
      have rvc : rv ≠ a := fun z => by
        rw [z, da.1] at e3
        cases e3
      have hR' := w3 _ _ Rc (ne_of_none g1 nDH) g1
      have hv' := w3 _ _ rvc (ne_of_none e3 nDH) e3
      refine ⟨rfl, _, rfl, _, rfl, r, _, 0, _, rfl, rfl, SqT.of hR', atI_nat (j := 0) rfl, _, rfl, a, _, rfl, dg, rv, f (.inr nx), rfl, FrT.of hv', (okf _), fun H13 r13 M s13 f13 h13 ok13 => ⟨small2, fun T nT => ?_⟩⟩
      have h13 := h13 hv'
      have sT := same_new (o := .tup [kV (.inr nx), .ref r13]) nT
      have S := s13.trans sT
      have kD := keep_l (o := .lst (ts.map V.ref ++ [.ref T])) (S _ _ w1)
      refine ⟨_, S _ _ w1, ?_, ts ++ [T], ks ++ [(.inr nx, .ref r13)], ?_, ?_, ?_, ?_, ?_, ?_, ?_⟩
      · rw [List.length_map]
        exact small1000 (by omega)
      · rw [upd_same, List.map_append]
        rfl
      · rw [upd_ne cD]
        exact S _ _ w2
      · intro x o n1 n2 e
        rw [upd_ne n2]
        exact S _ _ (w3 x o n1 n2 e)
      · rw [List.take_add_one, hkv, List.map_append, List.map_append, w4]
        rfl
      · rw [List.length_append, w5]
        rfl
      · exact Paired.snocX (Paired.impX w6 fun t q' ht => kD _ _ (S _ _ ht)) (kD _ _ upd_same)
      · intro p hp
        rcases List.mem_append.mp hp with z | z
        · obtain ⟨r', M', a1, a2, a3⟩ := w7 p z
          exact ⟨r', M', a1, kD _ _ (S _ _ a2), a3⟩
        · rw [List.mem_singleton.mp z]
          exact ⟨r13, M, rfl, kD _ _ (sT _ _ h13), ok13⟩
    · rintro H' ⟨ts, ks, w1, w2, w3, w4, w5, w6, w7⟩
      rw [List.take_length] at w4
      have S1 : Same H (upd H' a (.dK kvs)) := fun x o e => by
        by_cases c : x = a
        · subst c
          rw [upd_same, ← da.1]
          exact e
        · rw [upd_ne c]
          exact w3 x o c (ne_of_none e nDH) e
      have kF : ∀ (x : Addr) (xs : List V), H' x = some (.tup xs) → (upd H' a (.dK kvs)) x = some (.tup xs) := fun x xs e => by
        rw [upd_ne fun z => ?_]
        · exact e
        · rw [z, w2] at e
          cases e
      have w1' : (upd H' a (.dK kvs)) D2 = some (.lst (ts.map V.ref)) := by
        rw [upd_ne cD.symm]
        exact w1
      have w6' := Paired.impX w6 (G := fun (t : Addr) (q : Key × V) => (upd H' a (.dK kvs)) t = some (.tup [kV q.1, q.2])) fun t q' ht => kF _ _ ht
      have w7' : ∀ p ∈ ks, ∃ (r' : Addr) (M : Int × Int), p.2 = .ref r' ∧ (upd H' a (.dK kvs)) r' = some (.tup [.int M.1, .int M.2]) ∧ Okb 11 M := fun p hp => by
        obtain ⟨r', M, a1, a2, a3⟩ := w7 p hp
        exact ⟨r', M, a1, kF _ _ a2, a3⟩
      refine ⟨w2, ?_⟩
      clear w1 w2 w3 w6 w7 kF
      generalize upd H' a (.dK kvs) = H12 at S1 w1' w6' w7' ⊢
      have ndk : (ks.map (·.1)).Nodup := by
        rw [w4]
        exact da.2.1
      have kl2 : ks.length ≤ m := by
        have z := congrArg List.length w4
        rw [List.length_map, List.length_map] at z
        omega
      refine ⟨D2, ts, ks, rfl, SqL.of w1', Paired.impX w6' (fun t q' ht => SqT.of ht), fun Pt nPt => ?_⟩
      rw [merge_nd ks [] ndk]
      have sP := same_new (o := .dK ([] ++ ks)) nPt
      have hPt := upd_same (H := H12) (a := Pt) (o := .dK ([] ++ ks))
      have S2 := S1.trans sP
      have bd := dm_build (m := m) hPt ndk kl2 (fun p hp => ⟨by
        have hm : p.1 ∈ kvs.map (·.1) := by
          rw [← w4]
          exact List.mem_map.mpr ⟨p, hp, rfl⟩
        obtain ⟨p', hp', e'⟩ := List.mem_map.mp hm
        obtain ⟨⟨x, a1, a2⟩, _⟩ := da.2.2.2.1 p' hp'
        exact ⟨x, by rw [← e', a1], a2⟩, by
        obtain ⟨r', M, a1, a2, a3⟩ := w7' p hp
        exact ⟨r', M, a1, sP _ _ a2, a3⟩⟩)
      generalize upd H12 Pt (.dK ([] ++ ks)) = H13 at sP hPt S2 bd ⊢
      obtain ⟨bd1, bd2⟩ := bd
      generalize pval H13 _ = g2 at bd1 bd2
      intro D3 nD3
      have sD3 := same_new (o := .dK []) nD3
      refine ⟨_, rfl, small2, fun N3 nN3 => ?_⟩
      have sN3 := same_new (o := .tup [.int 1, .int 1]) nN3
      have S16 := sD3.trans sN3
      have ok1 : Okb 1 ((1, 1) : Int × Int) := ⟨by decide, by decide, by decide, by decide⟩
      refine ⟨D3, Pt, N3, [], _, fun _ => (0, 1), g2, (1, 1), 0, m, rfl, dm_new (sN3 _ _ upd_same), bd1.same S16, FrT.of upd_same, fun _ => okb_zero 999, fun k => (bd2 k).mono (by decide), ok1.mono (by decide), by decide, by omega, fun H17 c17 k17 s17 n17 d17 => ?_⟩
      have S17 := S2.trans (S16.trans s17)
      refine ⟨_, rfl, r, _, 1, _, rfl, rfl, SqT.of (S17 _ _ g1), atI_nat (j := 1) rfl, _, rfl, r, _, 2, _, rfl, rfl, SqT.of (S17 _ _ g1), atI_nat (j := 2) rfl, pn, num, rfl, g3.new S17, okn, fun H14 r14 M14 s14 f14 _ ok14 => ⟨by show 3 ≤ sizeLine; decide, fun R2 nR2 => ?_⟩⟩
      have sR2 := same_new (o := .tup [.ref c17, .str srt, .ref r14]) nR2
      refine q _ R2 c17 k17 g2 M14 (S17.trans (s14.trans sR2)) ⟨r14, upd_same, ?_, f14.new sR2, hs⟩ bd2 ok14
      refine ((d17.mono (by omega)).fn fun k => ?_).same (s14.trans sR2)
      rw [ftimes_l1 (lo_okb (bd2 k))]
      exact (zero_fplus (bd2 k)).symm
end
end SS
namespace SS
open PySem PySem.Spec PyProof.Rows L2
open Classical in
/-- f, but nought at x -/
noncomputable def offF (f : Key → Int × Int) (x : Key) : Key → Int × Int := fun k => if k = x then (0, 1) else f k
theorem okb_offS {A : Nat} {f : Key → Int × Int} (h : ∀ k, Okb (A + 1) (f k)) (x k : Key) : Okb (A + 1) (offF f x k) := by
  by_cases c : k = x
  · have e : offF f x k = (0, 1) := if_pos c
    rw [e]
    exact okb_zero A
  · have e : offF f x k = f k := if_neg c
    rw [e]
    exact h k
def offL (kvs : List (Key × V)) (x : Key) : List (Key × V) := kvs.filter fun p => decide (p.1 ≠ x)
theorem DM.offN {m : Nat} {H : Hp} {a c : Addr} {kvs : List (Key × V)} {f : Key → Int × Int} {x : Key} (h : DM True m H a kvs f) (n : H c = none) :
    DM True m (L2.upd H c (.dK (offL kvs x))) c (offL kvs x) (offF f x) := by
  have q := h.same (same_new (o := .dK (offL kvs x)) n)
  obtain ⟨_, h2, h3, h4, h5⟩ := q
  have sub : ∀ p ∈ offL kvs x, p ∈ kvs ∧ p.1 ≠ x := fun p hp => ⟨(List.mem_filter.mp hp).1, of_decide_eq_true (List.mem_filter.mp hp).2⟩
  refine ⟨upd_same, (List.filter_sublist.map _).nodup h2, Nat.le_trans (List.length_filter_le _ _) h3, fun p hp => ?_, fun k e => ?_⟩
  · obtain ⟨q1, q2⟩ := sub p hp
    have ef : offF f x p.1 = f p.1 := if_neg q2
    rw [ef]
    exact h4 p q1
  · by_cases c : k = x
    · exact if_pos c
    · refine (if_neg c).trans (h5 k ?_)
      cases e2 : valV kvs k with
      | none => rfl
      | some v =>
        obtain ⟨p, hp, e3, e4⟩ := mem_valV e2
        have hd : p ∈ offL kvs x := List.mem_filter.mpr ⟨hp, decide_eq_true (by rw [e3]; exact c)⟩
        exact absurd (List.mem_map.mpr ⟨p, hd, e3⟩) (valV_not e)
section
variable {P : Program} {w : World} {K : PySem.W.Frag} {mg : Str → Option Value} {base : Heap}
def spOther (K : PySem.W.Frag) : Sp := fun vs H Q _ => ∃ (st c r a u : Addr) (kvs : List (Key × V)) (f : Key → Int × Int) (srt : Str) (num : Int × Int) (xs : List Str), vs = [.ref st, .ref r, .ref u] ∧ StA st c H ∧ RowT K 9 H r a kvs f srt num ∧ (∀ k, Okb 20 (f k)) ∧ Okb 20 num ∧ H u = some (.lst (xs.map V.str)) ∧ 0 < xs.length ∧ xs.length ≤ 8 ∧ (∀ x ∈ xs, NmOk x) ∧
  ∀ H' r' a' ks g srt' num', But st H H' → StA st c H' → RowT K 10 H' r' a' ks g srt' num' → (∀ k, Okb 60 (g k)) → Okb 60 num' → Q (.ref r') H'
theorem scOther : FnScope ["_law_state", "_law_row", "_law_unknowns", "_law_way", "_law_number_here", "_law_sorts", "_law_key", "_law_contrary", "_law_sort", "_law_other", "_law_name"] ["_law_state", "_law_row", "_law_unknowns"] (defScope sOther) := ⟨rfl, rfl, rfl, by decide +kernel, rfl, by decide +kernel, by decide +kernel⟩
set_option maxHeartbeats 8000000 in
theorem ok_other {f' : Addr} {fd : FuncData} (F : Fun K "_law_other_row" "_law_other_row" sOther f' fd) (md : mg "dict" = none) (ml : mg "len" = none) (tk : Cl P w K mg base CX0 3 "_law_take" spTake []) (fc : Cl P w K mg base CX0 2 "_law_frac" spFrac []) (ad : Cl P w K mg base CX0 4 "_law_add" (spAdd K) []) (tm : Cl P w K mg base CX0 3 "_law_times" (spTimes K) []) (pl : Cl P w K mg base CX0 3 "_law_plus" (spPlus K) []) (ar : Cl P w K mg base CX0 6 "_law_any_row" (spAnyRow K) []) : FnOk P w K mg base CX0 7 f' fd ["_law_state", "_law_row", "_law_unknowns"] (spOther K) := by
  refine F.ok scOther (fun vs H Q E h => ?_) (fun cdv A' outer s H vs Q E hr h => ?_)
  · obtain ⟨_, _, _, _, _, _, _, _, _, _, rfl, _⟩ := h
    rfl
  · obtain ⟨st, c, r, a, u, kvs, f, srt, num, xs, rfl, s0, ⟨pn, g1, da, g3, hs⟩, okf, okn, hu0, x0, x8, hx, q⟩ := h
    have hu := hu_of hr
    refine ⟨_, pss_cons (ps_set (i := 3) scOther.nd rfl (.inl rfl) (pc0 tk hr (by decide) (pa_cons (pv 0) (pa_cons pe_int pa_nil))))
      (pss_cons (ps_set (i := 4) scOther.nd rfl (.inl rfl) (pc0 fc hr (by decide) (pa_cons (pe_op op_mulW (pe_op op_add pe_int (pc0 tk hr (by decide) (pa_cons (pv 0) (pa_cons pe_int pa_nil)))) (pe_op op_sub pe_int (pe_op op_mul pe_int (pc0 tk hr (by decide) (pa_cons (pv 0) (pa_cons pe_int pa_nil)))))) (pa_cons (pe_op op_add pe_int (pc0 tk hr (by decide) (pa_cons (pv 0) (pa_cons pe_int pa_nil)))) pa_nil))))
      (pss_cons (ps_set (i := 5) scOther.nd rfl (.inl rfl) (pe_tup (pa_cons pe_str (pa_cons pe_str (pa_cons pe_str (pa_cons pe_str (pa_cons pe_str pa_nil)))))))
      (pss_cons (ps_set (i := 6) scOther.nd rfl (.inr rfl) (pe_ix ix_list (pv 2) (pc0 tk hr (by decide) (pa_cons (pv 0) (pa_cons (pe_callB call_len_seq (by rfl) ml PySem.boot_len (pa_cons (pv 2) pa_nil)) pa_nil))) (fun _ _ => rfl)))
      (pss_cons (ps_set (i := 7) scOther.nd rfl (.inl rfl) (pe_disp (pps_cons pe_str pe_str (pps_cons pe_str pe_str (pps_cons pe_str pe_str (pps_cons pe_str pe_str (pps_cons pe_str pe_str pps_nil))))) (by rfl) (by rfl) (fun z => by cases z) (by decide)))
      (pss_cons (ps_set (i := 8) scOther.nd rfl (.inl rfl) (pe_ix ix_tup (pv 1) pe_int (fun _ _ => rfl)))
      (pss_cons (ps_if (PW.pt (pw_and (pt_cmpR op_lt (pe_ix ix_tup (pv 4) pe_int (fun _ _ => rfl)) pe_int (nomark _)) (pw_and1 (pt_cmpR op_ne (pv 3) pe_int (nomark _))))) (pss_one (ps_set (i := 8) scOther.nd rfl (.inl rfl) (pe_dget hu (pv 7) (pv 8) (fun _ _ => rfl)))) pss_nil)
      (pss_cons (ps_set (i := 9) scOther.nd rfl (.inr rfl) (pe_tup (pa_cons (pc0 ad hr (by decide) (pa_cons pe_dnewK (pa_cons (pe_ix ix_tup (pv 1) pe_int (fun _ _ => rfl)) (pa_cons (pv 4) pa_nil)))) (pa_cons (pv 8) (pa_cons (pc0 tm hr (by decide) (pa_cons (pe_ix ix_tup (pv 1) pe_int (fun _ _ => rfl)) (pa_cons (pv 4) pa_nil))) pa_nil)))))
      (pss_cons (ps_if (pt_cmpR op_eq (pv 3) pe_int (nomark _)) (pss_one (ps_ret (pe_tup (pa_cons (pe_ix ix_tup (pv 9) pe_int (fun _ _ => rfl)) (pa_cons (pe_ix ix_tup (pv 5) (pc0 tk hr (by decide) (pa_cons (pv 0) (pa_cons pe_int pa_nil))) (fun _ _ => rfl)) (pa_cons (pe_ix ix_tup (pv 9) pe_int (fun _ _ => rfl)) pa_nil)))))) pss_nil)
      (pss_cons (ps_if (pt_cmpR op_eq (pv 3) pe_int (nomark _)) (pss_one (ps_ret (pe_tup (pa_cons (pe_ix ix_tup (pv 9) pe_int (fun _ _ => rfl)) (pa_cons (pe_ix ix_tup (pv 9) pe_int (fun _ _ => rfl)) (pa_cons (pc0 pl hr (by decide) (pa_cons (pe_ix ix_tup (pv 9) pe_int (fun _ _ => rfl)) (pa_cons (pe_tup (pa_cons pe_int (pa_cons (pe_op op_add pe_int (pc0 tk hr (by decide) (pa_cons (pv 0) (pa_cons pe_int pa_nil)))) pa_nil))) pa_nil))) pa_nil)))))) pss_nil)
      (pss_cons (ps_if (pt_cmpR op_eq (pv 3) pe_int (nomark _)) (pss_one (ps_ret (pe_tup (pa_cons (pc0 ad hr (by decide) (pa_cons (pe_ix ix_tup (pv 9) pe_int (fun _ _ => rfl)) (pa_cons (pe_disp (pps_cons (pv 6) (pe_tup (pa_cons pe_int (pa_cons pe_int pa_nil))) pps_nil) (by rfl) (by rfl) (fun z => by cases z) (by decide)) (pa_cons (pe_tup (pa_cons pe_int (pa_cons (pe_op op_add pe_int (pc0 tk hr (by decide) (pa_cons (pv 0) (pa_cons pe_int pa_nil)))) pa_nil))) pa_nil)))) (pa_cons (pe_ix ix_tup (pv 9) pe_int (fun _ _ => rfl)) (pa_cons (pe_ix ix_tup (pv 9) pe_int (fun _ _ => rfl)) pa_nil)))))) pss_nil)
      (pss_cons (ps_if (pt_cmpR op_eq (pv 3) pe_int (nomark _)) (pss_one (ps_ret (pe_tup (pa_cons (pe_callTy (call_dictP rfl) (by rfl) md (by decide +kernel) (pa_cons (pe_lock (pe_lc (own := [("_law_name", 10)]) (g := gName 10) rfl scOther.nd (pi_keys (pe_ix ix_tup (pv 9) pe_int (fun _ _ => rfl))) (blkOk_by (by rfl))
              (fun _ _ _ _ _ => pg_name (i := 10) scOther.nd rfl (Or.inl rfl)) (fun _ _ _ _ _ => pts_one (pt_cmpR op_ne (pv 10) (pv 6) (nomark _)))
              (fun _ _ _ _ _ => pe_tup (pa_cons (pv 10) (pa_cons (pe_dget hu (pe_ix (ix_tupK (K := K) rfl) (pv 9) pe_int (fun _ _ => rfl)) (pv 10) (fun _ _ => rfl)) pa_nil))))) pa_nil)) (pa_cons (pe_ix ix_tup (pv 9) pe_int (fun _ _ => rfl)) (pa_cons (pe_ix ix_tup (pv 9) pe_int (fun _ _ => rfl)) pa_nil)))))) pss_nil)
      (pss_cons (ps_if (pt_cmpR op_eq (pv 3) pe_int (nomark _)) (pss_one (ps_ret (pc0 ar hr (by decide) (pa_cons (pv 0) (pa_cons (pv 2) pa_nil))))) pss_nil)
      (pss_one (ps_ret (pv 9))))))))))))))), ?_⟩
    have nu := strs_ne s0 hu0
    have el : ((xs.map V.str).length : Int) = (xs.length : Int) := by rw [List.length_map]
    have R0 : RowT K 9 H r a kvs f srt num := ⟨pn, g1, da, g3, hs⟩
    refine ⟨_, rfl, st, c, 8, rfl, by decide, lt8 (by decide), s0, fun H1 wy b1 s1 l1 u1 => ?_⟩
    refine ⟨_, rfl, st, c, 6, rfl, by decide, lt8 (by decide), s1, fun H2 d2 b2 s2 l2 u2 => ⟨1, d2, rfl, rfl, ?_⟩⟩
    refine ⟨_, rfl, st, c, 2, rfl, by decide, lt8 (by decide), s2, fun H3 d3 b3 s3 l3 u3 => ⟨2, d3, rfl, rfl, .inl ⟨by decide, by decide⟩, 1, 2 * d3, rfl, rfl, 1 + d2, 1 - 2 * d3, rfl, rfl, wide_mul (a := 100) (b := 100) (by omega) (by omega) (by decide) (by decide) (by decide), ?_⟩⟩
    refine ⟨_, rfl, st, c, 3, rfl, by decide, lt8 (by decide), s3, fun H4 d4 b4 s4 l4 u4 => ⟨1, d4, rfl, rfl, ?_⟩⟩
    have n1 : 1 + d4 ≠ 0 := by omega
    have n2 : (1 + d4).natAbs < 2 ^ 11 := by omega
    obtain ⟨t, et⟩ : ∃ t, (1 + d2) * (1 - 2 * d3) = t := ⟨_, rfl⟩
    have n3 : t.natAbs < 2 ^ 11 := by
      rcases (show d3 = 0 ∨ d3 = 1 by omega) with e | e <;> subst e <;> omega
    refine ⟨t, 1 + d4, by subst et; rfl, n1, lt8 (by omega), fun p np => ?_⟩
    have sp := same_new (o := .tup [.int (fr1 t (1 + d4)), .int (fr2 t (1 + d4))]) np
    have B5 : But st H _ := (((b1.trans b2).trans b3).trans b4).trans (Same.but sp)
    have s5 := s4.same sp
    have hp : (upd H4 p (.tup [.int (fr1 t (1 + d4)), .int (fr2 t (1 + d4))])) p = some (.tup [.int (fr1 t (1 + d4)), .int (fr2 t (1 + d4))]) := upd_same
    have okb : Okb 11 (fr1 t (1 + d4), fr2 t (1 + d4)) := ⟨fr2_pos n1, Nat.lt_of_le_of_lt (fr1_le n1) n3, Nat.lt_of_le_of_lt (fr2_le n1) n2, fr_gcd n1⟩
    generalize upd H4 p (.tup [.int (fr1 t (1 + d4)), .int (fr2 t (1 + d4))]) = H5 at B5 s5 hp
    generalize fr1 t (1 + d4) = nt at hp okb
    generalize fr2 t (1 + d4) = nb at hp okb
    clear sp np et n3 n2 n1 b1 b2 b3 b4 s1 s2 s3 s4
    refine ⟨by show 5 ≤ sizeLine; decide, fun U nU => ?_⟩
    have sU := same_new (o := .tup (sorts.map V.str)) nU
    have hU := upd_same (H := H5) (a := U) (o := .tup (sorts.map V.str))
    have B6 : But st H _ := B5.trans (Same.but sU)
    have s6 := s5.same sU
    have hp6 := sU _ _ hp
    have hu6 := B6 _ _ nu hu0
    refine ⟨_, rfl, _, rfl, _, rfl, u, _, rfl, .inl (SqL.of hu6), st, c, (xs.length : Int), congrArg (fun z => [V.ref st, V.int z]) el, by omega, lt8 (by omega), s6, fun H7 d7 b7 s7 l7 u7 => ?_⟩
    obtain ⟨x, hxi, hat⟩ := at_str (xs := xs) l7 u7
    have hu7 := b7 _ _ nu hu6
    refine ⟨u, _, d7, _, rfl, rfl, SqL.of hu7, hat, ?_⟩
    have B7 := B6.trans b7
    have hp7 := b7.tup s6 hp6
    have hU7 := b7.tup s6 hU
    intro D nD
    refine ⟨upd_same, turnKV, rfl, by decide, ?_⟩
    have sD : Same H7 (upd (upd H7 D (.dK [])) D (.dK (mergeK [] turnKV))) := fun b o e => by
      rw [upd_ne (ne_of_none e nD), upd_ne (ne_of_none e nD)]
      exact e
    have hD := upd_same (H := upd H7 D (.dK [])) (a := D) (o := .dK (mergeK [] turnKV))
    have B8 : But st H _ := B7.trans (Same.but sD)
    have s8 := s7.same sD
    have hp8 := sD _ _ hp7
    have hU8 := sD _ _ hU7
    have hu8 := sD _ _ hu7
    generalize upd (upd H7 D (.dK [])) D (.dK (mergeK [] turnKV)) = H8 at hD B8 s8 hp8 hU8 hu8 ⊢
    have R8 := R0.but B8 s0
    clear sD nD B7 hp7 hU7 hu7 b7 s7 hp6 hu6 hU s6 B6 sU nU hp s5 B5
    obtain ⟨pn, g1, da, g3, hs⟩ := id R8
    refine ⟨_, rfl, r, _, 1, _, rfl, rfl, SqT.of g1, atI_nat (j := 1) rfl, ?_⟩
    refine' mid (C := _) (Inv := fun σ H' => ∃ srt', H' = H8 ∧ srt' ∈ sorts ∧ σ = [some (.ref st), some (.ref r), some (.ref u), some (.int wy), some (.ref p), some (.ref U), some (.str x), some (.ref D), some (.str srt'), none, none]) (fun key => ?main) ?cont
    case main =>
      refine ⟨_, rfl, p, _, 0, _, rfl, rfl, SqT.of hp8, atI_nat (j := 0) rfl, _, 0, rfl, rfl, _, rfl, ite2 (fun e => ?n1) (fun e => iteF ?r1)⟩
      case' n1 => refine ⟨_, rfl, rfl, _, rfl, ite2 (fun e2 => ?y) (fun e2 => ?r2)⟩
      case r1 | r2 => exact key _ _ ⟨srt, rfl, hs, rfl⟩
      case y =>
        refine ⟨_, rfl, _, rfl, D, _, rfl, .inl ⟨_, .inr srt, .inl hD, rfl, (turn_get hs).symm⟩, ?_⟩
        refine key _ _ ⟨turnT srt, rfl, ?_, rfl⟩
        rcases sorts5 hs with rfl | rfl | rfl | rfl | rfl <;> decide
    case cont =>
      rintro σ H' ⟨srt', rfl, hs', rfl⟩
      intro D1 nD1
      have sD1 := same_new (o := .dK []) nD1
      refine ⟨_, rfl, r, _, 0, _, rfl, rfl, SqT.of (sD1 _ _ g1), atI_nat (j := 0) rfl, _, rfl, ?_⟩
      refine ⟨D1, a, p, [], kvs, fun _ => (0, 1), f, (nt, nb), 0, 9, rfl, dm_new upd_same, (da.same sD1).weak, FrT.of (sD1 _ _ hp8), fun _ => okb_zero 999, fun k => (okf k).mono (by decide), okb.mono (by decide), by decide, by decide, fun H9 c9 k9 s9 n9 d9 => ?_⟩
      have S9 := sD1.trans s9
      refine ⟨_, rfl, _, rfl, r, _, 2, _, rfl, rfl, SqT.of (S9 _ _ g1), atI_nat (j := 2) rfl, _, rfl, num.1, num.2, nt, nb, two_okb (v := (nt, nb)) (g3.new S9) (FrT.of (S9 _ _ hp8)) okn okb (by decide) (by decide), fun p10 np10 => ⟨by show 3 ≤ sizeLine; decide, fun R nR => ?_⟩⟩
      have sp := same_new (o := .tup [.int (fr1 (num.1 * nt) (num.2 * nb)), .int (fr2 (num.1 * nt) (num.2 * nb))]) np10
      have sR := same_new (o := .tup [.ref c9, .str srt', .ref p10]) nR
      have S11 := S9.trans (sp.trans sR)
      have d11 := ((((d9.mono (n := 9) (by decide)).fn (g := fun k => ftimes (f k) (nt, nb)) fun k => (zero_fplus (okb_times (okf k) okb)).symm).same sp).same sR)
      have hR := upd_same (H := upd H9 p10 (.tup [.int (fr1 (num.1 * nt) (num.2 * nb)), .int (fr2 (num.1 * nt) (num.2 * nb))])) (a := R) (o := .tup [.ref c9, .str srt', .ref p10])
      have f10 : (upd (upd H9 p10 (.tup [.int (fr1 (num.1 * nt) (num.2 * nb)), .int (fr2 (num.1 * nt) (num.2 * nb))])) R (.tup [.ref c9, .str srt', .ref p10])) p10 = some (.tup [.int (ftimes num (nt, nb)).1, .int (ftimes num (nt, nb)).2]) := sR _ _ upd_same
      have ok10 : Okb 31 (ftimes num (nt, nb)) := okb_times okn okb
      have okg : ∀ k, Okb 31 (ftimes (f k) (nt, nb)) := fun k => okb_times (okf k) okb
      have s11 := s8.same S11
      have B11 : But st H _ := B8.trans (Same.but S11)
      have hU11 := S11 _ _ hU8
      have hu11 := S11 _ _ hu8
      clear S11 sp sR nR np10 S9 s9 n9 d9 sD1 nD1 R8 R0
      generalize (upd (upd H9 p10 (.tup [.int (fr1 (num.1 * nt) (num.2 * nb)), .int (fr2 (num.1 * nt) (num.2 * nb))])) R (.tup [.ref c9, .str srt', .ref p10])) = H11 at d11 hR f10 s11 B11 hU11 hu11 ⊢
      generalize ftimes num (nt, nb) = num' at f10 ok10
      obtain ⟨g, eg⟩ : ∃ g, g = (fun k => ftimes (f k) (nt, nb)) := ⟨_, rfl⟩
      have okg' : ∀ k, Okb 31 (g k) := fun k => by rw [eg]; exact okg k
      rw [← eg] at d11
      clear okg eg
      -- way 3
      refine ⟨_, rfl, rfl, _, rfl, ite2 (fun e => ?w3) (fun e => ?_)⟩
      case w3 =>
        refine ⟨_, rfl, R, _, 0, _, rfl, rfl, SqT.of hR, atI_nat (j := 0) rfl, _, rfl, _, rfl, st, c, 5, rfl, by decide, lt8 (by decide), s11, fun H12 d12 b12 s12 l12 u12 => ?_⟩
        obtain ⟨srt2, hs1, hs2⟩ := at_str (xs := sorts) l12 u12
        refine ⟨U, _, d12, _, rfl, rfl, SqT.of (b12.tup s11 hU11), hs2, _, rfl, R, _, 2, _, rfl, rfl, SqT.of (b12.tup s11 hR), atI_nat (j := 2) rfl, by show 3 ≤ sizeLine; decide, fun R3 nR3 => ?_⟩
        have sR3 := same_new (o := .tup [.ref c9, .str srt2, .ref p10]) nR3
        exact q _ R3 c9 k9 g srt2 num' ((B11.trans b12).trans (Same.but sR3)) (s12.same sR3) ⟨p10, upd_same, ((d11.but b12 s11).mono (by decide)).same sR3, FrT.of (sR3 _ _ (b12.tup s11 f10)), hs1⟩ (fun k => (okg' k).mono (by decide)) (ok10.mono (by decide))
      -- way 4
      refine ⟨_, rfl, rfl, _, rfl, ite2 (fun e => ?w4) (fun e => ?_)⟩
      case w4 =>
        refine ⟨_, rfl, R, _, 0, _, rfl, rfl, SqT.of hR, atI_nat (j := 0) rfl, _, rfl, R, _, 1, _, rfl, rfl, SqT.of hR, atI_nat (j := 1) rfl, _, rfl, R, _, 2, _, rfl, rfl, SqT.of hR, atI_nat (j := 2) rfl, _, rfl, st, c, 9, rfl, by decide, lt8 (by decide), s11, fun H12 d12 b12 s12 l12 u12 => ⟨1, d12, rfl, rfl, small2, fun T nT => ?_⟩⟩
        have sT := same_new (o := .tup [.int 1, .int (1 + d12)]) nT
        have ok1 : Okb 11 ((1, 1 + d12) : Int × Int) := ⟨by show 0 < 1 + d12; omega, by show (1 : Int).natAbs < 2048; decide, by show (1 + d12).natAbs < 2048; omega, Int.gcd_one_left _⟩
        have f12 := sT _ _ (b12.tup s11 f10)
        refine ⟨num'.1, num'.2, 1, 1 + d12, two_okb (v := (1, 1 + d12)) (FrT.of f12) (FrT.of upd_same) ok10 ok1 (by decide) (by decide), fun p13 np13 => ⟨by show 3 ≤ sizeLine; decide, fun R3 nR3 => ?_⟩⟩
        have sp3 := same_new (o := .tup [.int (fplus num' (1, 1 + d12)).1, .int (fplus num' (1, 1 + d12)).2]) np13
        have sR3 := same_new (o := .tup [.ref c9, .str srt', .ref p13]) nR3
        have S := (sT.trans sp3).trans sR3
        exact q _ R3 c9 k9 g srt' (fplus num' (1, 1 + d12)) ((B11.trans b12).trans (Same.but S)) (s12.same S) ⟨p13, upd_same, ((d11.but b12 s11).mono (by decide)).same S, FrT.of (sR3 _ _ upd_same), hs'⟩ (fun k => (okg' k).mono (by decide)) ((okb_plus ok10 ok1).mono (by decide))
      -- way 5
      refine ⟨_, rfl, rfl, _, rfl, ite2 (fun e => ?w5) (fun e => ?_)⟩
      case w5 =>
        refine ⟨_, rfl, R, _, 0, _, rfl, rfl, SqT.of hR, atI_nat (j := 0) rfl, fun E nE => ⟨_, rfl, small2, fun T nT => ?_⟩⟩
        have sT := same_new (o := .tup [.int 1, .int 1]) nT
        have hE : (upd (upd H11 E (.dK [])) T (.tup [.int 1, .int 1])) E = some (.dK []) := sT _ _ upd_same
        refine ⟨hE, [(.inr x, .ref T)], rfl, by show 1 ≤ 15; decide, ?_⟩
        have em : mergeK [] [((.inr x : Key), V.ref T)] = [((.inr x : Key), V.ref T)] := merge_nd [((.inr x : Key), V.ref T)] [] (by simp)
        rw [em]
        have S12 : Same H11 (upd (upd (upd H11 E (.dK [])) T (.tup [.int 1, .int 1])) E (.dK [((.inr x : Key), V.ref T)])) := fun b o e => by
          rw [upd_ne (ne_of_none e nE)]
          exact sT _ _ (same_new nE _ _ e)
        have hE2 := upd_same (H := (upd (upd H11 E (.dK [])) T (.tup [.int 1, .int 1]))) (a := E) (o := .dK [((.inr x : Key), V.ref T)])
        have hT : (upd (upd (upd H11 E (.dK [])) T (.tup [.int 1, .int 1])) E (.dK [((.inr x : Key), V.ref T)])) T = some (.tup [.int 1, .int 1]) := by
          rw [upd_ne fun z => ?_]
          · exact upd_same
          · rw [z, upd_same] at nT
            cases nT
        generalize (upd (upd (upd H11 E (.dK [])) T (.tup [.int 1, .int 1])) E (.dK [((.inr x : Key), V.ref T)])) = H12 at S12 hE2 hT ⊢
        have bd := dm_build (m := 1) hE2 (by simp) (Nat.le_refl 1) (fun p hp => by
          rw [List.mem_singleton.mp hp]
          exact ⟨⟨x, rfl, hx x hxi⟩, T, (1, 1), rfl, hT, okb_whole (by decide)⟩)
        obtain ⟨bd1, bd2⟩ := bd
        generalize pval H12 _ = g2 at bd1 bd2
        have s12 := s11.same S12
        refine ⟨_, rfl, st, c, 4, rfl, by decide, lt8 (by decide), s12, fun H13 d13 b13 s13 l13 u13 => ⟨1, d13, rfl, rfl, small2, fun T2 nT2 => ?_⟩⟩
        have sT2 := same_new (o := .tup [.int 1, .int (1 + d13)]) nT2
        have ok1 : Okb 11 ((1, 1 + d13) : Int × Int) := ⟨by show 0 < 1 + d13; omega, by show (1 : Int).natAbs < 2048; decide, by show (1 + d13).natAbs < 2048; omega, Int.gcd_one_left _⟩
        have mv : ∀ {y : Addr} {vs : List V}, H11 y = some (.tup vs) → (upd H13 T2 (.tup [.int 1, .int (1 + d13)])) y = some (.tup vs) := fun e => sT2 _ _ (b13.tup s12 (S12 _ _ e))
        refine ⟨c9, E, T2, k9, _, g, g2, (1, 1 + d13), 9, 1, rfl, ((d11.same S12).but b13 s12).same sT2, (bd1.but b13 s12).same sT2, FrT.of upd_same, fun k => (okg' k).mono (by decide), fun k => (bd2 k).mono (by decide), ok1.mono (by decide), by decide, by decide, fun H16 c16 k16 s16 n16 d16 => ?_⟩
        refine ⟨_, rfl, R, _, 1, _, rfl, rfl, SqT.of (s16 _ _ (mv hR)), atI_nat (j := 1) rfl, _, rfl, R, _, 2, _, rfl, rfl, SqT.of (s16 _ _ (mv hR)), atI_nat (j := 2) rfl, by show 3 ≤ sizeLine; decide, fun R3 nR3 => ?_⟩
        have sR3 := same_new (o := .tup [.ref c16, .str srt', .ref p10]) nR3
        have S := (sT2.trans s16).trans sR3
        exact q _ R3 c16 k16 _ srt' num' (((B11.trans (Same.but S12)).trans b13).trans (Same.but S)) (s13.same S) ⟨p10, upd_same, d16.same sR3, FrT.of (sR3 _ _ (s16 _ _ (mv f10))), hs'⟩ (fun k => (okb_plus (okg' k) (okb_times (bd2 k) ok1)).mono (by decide)) (ok10.mono (by decide))
      -- way 6
      refine ⟨_, rfl, rfl, _, rfl, ite2 (fun e => ?w6) (fun e => ?_)⟩
      case w6 =>
        have Rc : R ≠ c9 := fun z => by
          rw [z, d11.1] at hR
          cases hR
        refine ⟨c9, .dK k9, d11.1, trivial, fun od => ⟨_, rfl, R, _, 0, _, rfl, rfl, SqT.of (by rw [upd_ne Rc]; exact hR), atI_nat (j := 0) rfl, c9, od, rfl, .inl ⟨k9, upd_same, fun D2 nD2 => ?_⟩⟩⟩
        have nDH : H11 D2 = none := by
          cases e : H11 D2 with
          | none => rfl
          | some o =>
            by_cases c : D2 = c9
            · rw [c, upd_same] at nD2
              cases nD2
            · rw [upd_ne c, e] at nD2
              cases nD2
        have cD : c9 ≠ D2 := ne_of_none d11.1 nDH
        have kl := d11.2.2.1
        refine lc_it walk_keys (fun i H' => ∃ (ts : List Addr), H' D2 = some (.lst (ts.map V.ref)) ∧ H' c9 = some (.frz od (.dK k9)) ∧ (∀ x o, x ≠ c9 → x ≠ D2 → H11 x = some o → H' x = some o) ∧ ts.length ≤ i ∧
            Paired (fun (t : Addr) (q : Key × V) => H' t = some (.tup [kV q.1, q.2])) ts (offL (k9.take i) (.inr x)))
          ⟨[], upd_same, by rw [upd_ne cD]; exact upd_same, fun x o n1 n2 e => by rw [upd_ne n2, upd_ne n1]; exact e, Nat.le_refl _, .nil⟩ (fun _ _ _ ⟨_, _, w2, _⟩ => w2) ?_ ?_
        · rintro i y H12 H' hi ⟨ts, w1, w2, w3, w5, w6⟩ ⟨rfl, key', v, hkv, rfl⟩
          obtain ⟨⟨nx, e1, okx⟩, ⟨rv, e2, e3⟩, _⟩ := d11.2.2.2.1 (key', v) (List.mem_of_getElem? hkv)
          have e2' : v = .ref rv := e2
          have e1' : key' = .inr nx := e1
          subst e2' e1'
          have ev : valV k9 (.inr nx) = some (.ref rv) := val_nodup d11.2.1 (.inr nx, .ref rv) (List.mem_of_getElem? hkv)
          have dg : DGet H' c9 (kV (.inr nx)) (some (.ref rv)) := .inl ⟨k9, .inr nx, .inr ⟨od, w2⟩, rfl, ev.symm⟩
          have hR' := w3 _ _ Rc (ne_of_none hR nDH) hR
          have tk1 : k9.take (i + 1) = k9.take i ++ [(.inr nx, .ref rv)] := by
            rw [List.take_add_one, hkv]
            rfl
          refine ⟨rfl, _, rfl, _, rfl, rfl, _, rfl, ite2 (fun e => ?_) (fun e => ?_)⟩
          · have nex : nx ≠ x := fun z => by
              rw [z] at e
              have e9 : (!decide (V.str x = V.str x)) = true := e
              rw [decide_eq_true rfl] at e9
              cases e9
            have ek : offL (k9.take (i + 1)) (.inr x) = offL (k9.take i) (.inr x) ++ [(.inr nx, .ref rv)] := by
              rw [tk1]
              unfold offL
              rw [List.filter_append, List.filter_cons_of_pos (by simpa using nex)]
              rfl
            refine ⟨_, rfl, _, rfl, R, _, 0, _, rfl, rfl, SqT.of hR', atI_nat (j := 0) rfl, _, rfl, c9, _, rfl, dg, small2, fun T nT => ?_⟩
            have sT := same_new (o := .tup [kV (.inr nx), .ref rv]) nT
            have kD := keep_l (o := .lst (ts.map V.ref ++ [.ref T])) (sT _ _ w1)
            refine ⟨_, sT _ _ w1, ?_, ts ++ [T], ?_, ?_, ?_, ?_, ?_⟩
            · rw [List.length_map]
              exact small1000 (by omega)
            · rw [upd_same, List.map_append]
              rfl
            · rw [upd_ne cD]
              exact sT _ _ w2
            · intro x o n1 n2 e
              rw [upd_ne n2]
              exact sT _ _ (w3 x o n1 n2 e)
            · rw [List.length_append]
              exact Nat.succ_le_succ w5
            · rw [ek]
              exact Paired.snocX (Paired.impX w6 fun t q' ht => kD _ _ (sT _ _ ht)) (kD _ _ upd_same)
          · have nex : nx = x := by
              by_cases c : nx = x
              · exact c
              · exact absurd (by show (!decide (V.str nx = V.str x)) = true; rw [decide_eq_false fun z => c (V.str.inj z)]; rfl) e
            have ek : offL (k9.take (i + 1)) (.inr x) = offL (k9.take i) (.inr x) := by
              rw [tk1, nex]
              unfold offL
              rw [List.filter_append, List.filter_cons_of_neg (by simp)]
              exact List.append_nil _
            refine ⟨ts, w1, w2, w3, Nat.le_succ_of_le w5, ?_⟩
            rw [ek]
            exact w6
        · rintro H' ⟨ts, w1, w2, w3, w5, w6⟩
          rw [List.take_length] at w6
          have S1 : Same H11 (upd H' c9 (.dK k9)) := fun x o e => by
            by_cases c : x = c9
            · subst c
              rw [upd_same, ← d11.1]
              exact e
            · rw [upd_ne c]
              exact w3 x o c (ne_of_none e nDH) e
          have kF : ∀ (x : Addr) (xs : List V), H' x = some (.tup xs) → (upd H' c9 (.dK k9)) x = some (.tup xs) := fun x xs e => by
            rw [upd_ne fun z => ?_]
            · exact e
            · rw [z, w2] at e
              cases e
          have w1' : (upd H' c9 (.dK k9)) D2 = some (.lst (ts.map V.ref)) := by
            rw [upd_ne cD.symm]
            exact w1
          have w6' := Paired.impX w6 (G := fun (t : Addr) (q : Key × V) => (upd H' c9 (.dK k9)) t = some (.tup [kV q.1, q.2])) fun t q' ht => kF _ _ ht
          refine ⟨w2, ?_⟩
          clear w1 w2 w3 w6 kF
          generalize upd H' c9 (.dK k9) = H12 at S1 w1' w6' ⊢
          have ndk : ((offL k9 (.inr x)).map (·.1)).Nodup := (List.filter_sublist.map _).nodup d11.2.1
          refine ⟨D2, ts, offL k9 (.inr x), rfl, SqL.of w1', Paired.impX w6' (fun t q' ht => SqT.of ht), fun Pt nPt => ?_⟩
          rw [merge_nd (offL k9 (.inr x)) [] ndk]
          have sP := same_new (o := .dK (offL k9 (.inr x))) nPt
          have S2 := S1.trans sP
          have dP := (d11.same S1).offN (x := .inr x) nPt
          refine ⟨_, rfl, R, _, 1, _, rfl, rfl, SqT.of (S2 _ _ hR), atI_nat (j := 1) rfl, _, rfl, R, _, 2, _, rfl, rfl, SqT.of (S2 _ _ hR), atI_nat (j := 2) rfl, by show 3 ≤ sizeLine; decide, fun R3 nR3 => ?_⟩
          have sR3 := same_new (o := .tup [.ref Pt, .str srt', .ref p10]) nR3
          have S := S2.trans sR3
          exact q _ R3 Pt _ _ srt' num' (B11.trans (Same.but S)) (s11.same S) ⟨p10, upd_same, (dP.mono (by decide)).same sR3, FrT.of (S _ _ f10), hs'⟩ (fun k => (okb_offS okg' _ k).mono (by decide)) (ok10.mono (by decide))
      -- way 7
      refine ⟨_, rfl, rfl, _, rfl, ite2 (fun e => ?w7) (fun e => ?_)⟩
      case w7 =>
        refine ⟨_, rfl, _, rfl, st, c, u, xs, rfl, s11, hu11, x8, hx, fun H12 r2 a2 k2 f2 srt2 num2 b12 s12 _ R12 okf2 okn2 => ?_⟩
        exact q _ r2 a2 k2 f2 srt2 num2 (B11.trans b12) s12 (R12.mono (by decide)) (fun k => (okf2 k).mono (by decide)) (okn2.mono (by decide))
      refine ⟨_, rfl, ?_⟩
      exact q _ R c9 k9 g srt' num' B11 s11 ⟨p10, hR, d11.mono (by decide), FrT.of f10, hs'⟩ (fun k => (okg' k).mono (by decide)) (ok10.mono (by decide))
end
end SS
namespace SS
open PySem PySem.Spec PyProof.Rows L2
section
variable {P : Program} {w : World} {K : PySem.W.Frag} {mg : Str → Option Value} {base : Heap}
def spLaw (K : PySem.W.Frag) : Sp := fun vs H Q _ => ∃ (a : Addr) (ns : List Int), vs = [.ref a] ∧ SqL K H a (ns.map V.int) ∧ ∀ H', Q (.bl true) H'
theorem scLaw : FnScope ["_law_script", "_law_state", "_law_turn", "_law_empty", "_law_unknowns", "_law_row", "_law_other", "_law_handed", "_law_due", "_law_found", "_law_far", "_law_one"] ["_law_script"] (defScope sLaw) := ⟨rfl, rfl, rfl, by decide +kernel, rfl, by decide +kernel, by decide +kernel⟩
theorem Paired.snocG {α β : Type} {F : α → β → Prop} {ts : List α} {ks : List β} {t : α} {q : β} (h : Paired F ts ks) (e : F t q) : Paired F (ts ++ [t]) (ks ++ [q]) := by
  induction h with
  | nil => exact .cons e .nil
  | cons x _ ih => exact .cons x ih
theorem Paired.impG {α β : Type} {F G : α → β → Prop} {ts : List α} {ks : List β} (h : Paired F ts ks) (i : ∀ t q, F t q → G t q) : Paired G ts ks := by
  induction h with
  | nil => exact .nil
  | cons x _ ih => exact .cons (i _ _ x) ih
theorem FrT.updL {H : Hp} {D p : Addr} {xs : List V} {o : HO} {n d : Int} (h : FrT K H p n d) (hD : H D = some (.lst xs)) : FrT K (upd H D o) p n d := by
  obtain ⟨h1, h2⟩ := h
  have ne : ∀ o', H p = some o' → (∀ xs, o' ≠ .lst xs) → p ≠ D := fun o' e no z => by
    rw [z, hD] at e
    exact no _ (Option.some.inj e).symm
  rcases h1 with (h1 | ⟨o', h1⟩) | ⟨o', its, mm, k1, k2, k3⟩
  · exact FrT.of (by rw [upd_ne (ne _ h1 fun xs z => by cases z)]; exact h1)
  · have e : (upd H D o) p = _ := (upd_ne (ne _ h1 fun xs z => by cases z)).trans h1
    exact ⟨.inl (.inr ⟨o', e⟩), .fTuple e⟩
  · exact ⟨.inr ⟨o', its, mm, k1, k2, k3⟩, .kTuple k1 k2⟩
theorem DM.updL {z : Prop} {m : Nat} {H : Hp} {D a : Addr} {xs : List V} {o : HO} {kvs : List (Key × V)} {f : Key → Int × Int} (h : DM z m H a kvs f) (hD : H D = some (.lst xs)) : DM z m (L2.upd H D o) a kvs f := by
  obtain ⟨h1, h2, h3, h4, h5⟩ := h
  refine ⟨?_, h2, h3, fun p hp => ?_, h5⟩
  · rw [upd_ne fun e => ?_]
    · exact h1
    · rw [e, hD] at h1
      cases h1
  · obtain ⟨e1, ⟨r, e2, e3⟩, e4⟩ := h4 p hp
    exact ⟨e1, ⟨r, e2, keep_l hD _ _ e3⟩, e4⟩
/-- a row of such numbers -/
def RowB (K : PySem.W.Frag) (H : Hp) (r : Addr) (f : Key → Int × Int) (srt : Str) (num : Int × Int) : Prop := ∃ (a : Addr) (kvs : List (Key × V)), RowT K 10 H r a kvs f srt num
theorem RowB.same {H H' : Hp} {r : Addr} {f : Key → Int × Int} {srt : Str} {num : Int × Int} (h : RowB K H r f srt num) (s : Same H H') : RowB K H' r f srt num := by
  obtain ⟨a, kvs, h⟩ := h
  exact ⟨a, kvs, h.same s⟩
theorem RowB.but {H H' : Hp} {st c r : Addr} {f : Key → Int × Int} {srt : Str} {num : Int × Int} (h : RowB K H r f srt num) (b : But st H H') (y : StA st c H) : RowB K H' r f srt num := by
  obtain ⟨a, kvs, h⟩ := h
  exact ⟨a, kvs, h.but b y⟩
theorem RowB.p {H : Hp} {r : Addr} {f : Key → Int × Int} {srt : Str} {num : Int × Int} {F : Key → Int × Int} {S : Str} {N : Int × Int} (h : RowB K H r f srt num) (okf : ∀ k, Okb 20 (f k)) (okn : Okb 20 num) (pl : Pl 241 f srt num F S N) : RowP K H r F S N := by
  obtain ⟨a, kvs, h⟩ := h
  exact ⟨a, kvs, f, srt, num, 20, 241, h, okf, okn, by decide, by decide, by decide, pl⟩
theorem xv_rowB {H : Hp} {r r' : Addr} {f : Key → Int × Int} {srt : Str} {num : Int × Int} (h : RowB K H r f srt num) (h' : RowB K H r' f srt num) : XV K H 8 (.ref r) (.ref r') := by
  obtain ⟨a, kvs, h⟩ := h
  obtain ⟨a', kvs', h'⟩ := h'
  exact .inr (.inr (xr_row 4 h h'))
def InvT (K : PySem.W.Frag) (a st c : Addr) (σ : L2.St) (H' : Hp) : Prop := ∃ (y2 y3 y4 y7 y8 y9 y10 y11 : Option V) (r ro : Addr) (f fo : Key → Int × Int) (srt so : Str) (num no : Int × Int), σ = [some (.ref a), some (.ref st), y2, y3, y4, some (.ref r), some (.ref ro), y7, y8, y9, y10, y11] ∧ StA st c H' ∧
  RowB K H' r f srt num ∧ (∀ k, Okb 20 (f k)) ∧ Okb 20 num ∧ RowB K H' ro fo so no ∧ (∀ k, Okb 20 (fo k)) ∧ Okb 20 no
set_option maxHeartbeats 8000000 in
theorem ok_law {f' C : Addr} {fd : FuncData} (F : Fun K "law" "law" sLaw f' fd) (mr : mg "range" = none) (md : mg "dict" = none) (mi : mg "isinstance" = none) (mb : mg "bool" = none)
    (fs : Cl P w K mg base CX0 1 "_law_fresh" (spFresh K) []) (nn : Cl P w K mg base CX0 5 "_law_names" spNames []) (tk : Cl P w K mg base CX0 3 "_law_take" spTake []) (ar : Cl P w K mg base CX0 6 "_law_any_row" (spAnyRow K) [])
    (bn : Cl P w K mg base CX0 5 "_law_bounded" (spBnd K) []) (ot : Cl P w K mg base CX0 7 "_law_other_row" (spOther K) [])
    (fa : Cl P w K mg base CX0 4 "_law_far_number" spFar []) (rt : Cl P w K mg base (L2.CX P w) 5 "row_times" (spRowTimes K C) []) (lp : Cl P w K mg base CX0 6 "_law_plain" (spLPlain2 K) []) (sr : Cl P w K mg base (L2.CX P w) 8 "same_row" (spSame K) []) : FnOk P w K mg base CX0 9 f' fd ["_law_script"] (spLaw K) := by
  refine F.ok scLaw (fun vs H Q E h => ?_) (fun cdv A outer s H vs Q E hr h => ?_)
  · obtain ⟨_, _, rfl, _⟩ := h
    rfl
  · obtain ⟨a, ns, rfl, hS, q⟩ := h
    have hu := hu_of hr
    refine ⟨_, pss_cons (ps_set (i := 1) scLaw.nd rfl (.inl rfl) (pc0 fs hr (by decide) (pa_cons (pv 0) pa_nil)))
      (pss_cons (ps_for PassesOwn.never rfl (pi_range1 rfl mr (pa_cons pe_int pa_nil)) (pg_name (i := 2) scLaw.nd rfl (.inl rfl))
        (pss_cons (ps_set (i := 3) scLaw.nd rfl (.inl rfl) (pe_cmpR op_eq (pc0 tk hr (by decide) (pa_cons (pv 1) (pa_cons pe_int pa_nil))) pe_int (nomark _)))
        (pss_cons (ps_set (i := 4) scLaw.nd rfl (.inl rfl) (pc0 nn hr (by decide) (pa_cons (pv 1) (pa_cons (pe_op op_add pe_int (pc0 tk hr (by decide) (pa_cons (pv 1) (pa_cons pe_int pa_nil)))) pa_nil))))
        (pss_cons (ps_set (i := 5) scLaw.nd rfl (.inl rfl) (pc0 ar hr (by decide) (pa_cons (pv 1) (pa_cons (pv 4) pa_nil))))
        (pss_cons (ps_set (i := 6) scLaw.nd rfl (.inl rfl) (pc0 bn hr (by decide) (pa_cons (pc0 ot hr (by decide) (pa_cons (pv 1) (pa_cons (pv 5) (pa_cons (pv 4) pa_nil)))) pa_nil)))
        (pss_cons (ps_if (pt_val (pv 3))
          (pss_cons (ps_set (i := 5) scLaw.nd rfl (.inl rfl) (pe_tup (pa_cons pe_dnewK (pa_cons (pe_ix ix_tup (pv 5) pe_int (fun _ _ => rfl)) (pa_cons (pe_ix ix_tup (pv 5) pe_int (fun _ _ => rfl)) pa_nil)))))
          (pss_one (ps_set (i := 6) scLaw.nd rfl (.inl rfl) (pe_tup (pa_cons pe_dnewK (pa_cons (pe_ix ix_tup (pv 6) pe_int (fun _ _ => rfl)) (pa_cons (pe_ix ix_tup (pv 6) pe_int (fun _ _ => rfl)) pa_nil))))))) pss_nil)
        (pss_cons (ps_setLc (i := 7) (own := [("_law_one", 11)]) (g := gName 11) (tt := tYes) rfl scLaw.nd rfl rfl (sw_true rfl rfl rfl (by rfl)) (pi_tup (pe_tup (pa_cons (pv 5) (pa_cons (pv 6) pa_nil)))) (blkOk_by (by rfl))
              (fun _ _ _ _ _ => pg_name (i := 11) scLaw.nd rfl (Or.inl rfl)) (fun _ _ _ _ _ => pts_nil)
              (fun _ _ _ _ _ => pe_tup (pa_cons (pe_callTy call_dictD (by rfl) md (by decide +kernel) (pa_cons (pe_ix (ix_tupK (K := K) rfl) (pv 11) pe_int (fun _ _ => rfl)) pa_nil)) (pa_cons (pe_ix (ix_tupK (K := K) rfl) (pv 11) pe_int (fun _ _ => rfl)) (pa_cons (pe_ix (ix_tupK (K := K) rfl) (pv 11) pe_int (fun _ _ => rfl)) pa_nil)))))
        (pss_cons (ps_set (i := 8) scLaw.nd rfl (.inl rfl) (pe_cmpR (op_eqRow hr.units) (pc0 lp hr (by decide) (pa_cons (pv 5) pa_nil)) (pc0 lp hr (by decide) (pa_cons (pv 6) pa_nil)) (nomark _)))
        (pss_cons (ps_for PassesOwn.never rfl (pi_tup (pe_tup (pa_cons (pcX sr hr (by decide) (pa_cons (pe_ix ix_list (pv 7) pe_int (fun _ _ => rfl)) (pa_cons (pe_ix ix_list (pv 7) pe_int (fun _ _ => rfl)) pa_nil))) (pa_cons (pcX sr hr (by decide) (pa_cons (pe_ix ix_list (pv 7) pe_int (fun _ _ => rfl)) (pa_cons (pe_ix ix_list (pv 7) pe_int (fun _ _ => rfl)) pa_nil))) pa_nil)))) (pg_name (i := 9) scLaw.nd rfl (.inl rfl))
          (pss_one (ps_if (PW.pt (pw_or (pt_not (pt_val (pe_callB call_isi (by rfl) mi boot_isinstance (pa_cons (pv 9) (pa_cons (pe_bltn (v := .ty "bool") (u := .type "bool") (by rfl) mb (by decide +kernel) rfl) pa_nil))))) (pw_or1 (pt_cmpR op_ne (pv 9) (pv 8) (nomark _))))) (pss_one (ps_ret pe_bl)) pss_nil)))
        (pss_cons (ps_if (PW.pt (pw_or (pt_cmpR (op_neXL hr.units) (pv 7) (pe_lst (pa_cons (pv 5) (pa_cons (pv 6) pa_nil))) (nomark _)) (pw_or1 (pt_cmpR op_notBl (pcX sr hr (by decide) (pa_cons (pe_ix ix_list (pv 7) pe_int (fun _ _ => rfl)) (pa_cons (pv 5) pa_nil))) pe_bl (nomark _))))) (pss_one (ps_ret pe_bl)) pss_nil)
        (pss_cons (ps_set (i := 10) scLaw.nd rfl (.inl rfl) (pcX rt hr (by decide) (pa_cons (pe_ix ix_list (pv 7) pe_int (fun _ _ => rfl)) (pa_cons (pc0 fa hr (by decide) (pa_cons (pv 1) pa_nil)) pa_nil))))
        (pss_one (ps_if (PW.pt (pw_or (pt_cmpR op_notBl (pcX sr hr (by decide) (pa_cons (pv 10) (pa_cons (pe_ix ix_list (pv 7) pe_int (fun _ _ => rfl)) pa_nil))) pe_bl (nomark _)) (pw_or1 (pt_cmpR op_ne (pcX sr hr (by decide) (pa_cons (pe_ix ix_list (pv 7) pe_int (fun _ _ => rfl)) (pa_cons (pv 10) pa_nil))) (pv 8) (nomark _))))) (pss_one (ps_ret pe_bl)) pss_nil)))))))))))))
      (pss_one (ps_ret pe_bl))), ?_⟩
    refine ⟨_, rfl, a, ns, rfl, hS, fun H1 st c s1 ns1 nc1 sa1 => ?_⟩
    refine ⟨5, rfl, by decide, by decide, for_range (n := 5) (fun i σ H' => ∃ (y2 y3 y4 y5 y6 y7 y8 y9 y10 y11 : Option V), σ = [some (.ref a), some (.ref st), y2, y3, y4, y5, y6, y7, y8, y9, y10, y11] ∧ StA st c H')
      ⟨none, none, none, none, none, none, none, none, none, none, rfl, sa1⟩ ?_ (fun _ H' _ => q H')⟩
    clear sa1 s1 ns1 nc1 hS
    rintro i σ H1 hi ⟨y2, y3, y4, y5, y6, y7, y8, y9, y10, y11, rfl, s1⟩
    refine ⟨_, rfl, st, c, 4, rfl, by decide, lt8 (by decide), s1, fun H2 d2 b2 s2 l2 u2 => ⟨rfl, ?_⟩⟩
    refine ⟨_, rfl, _, rfl, st, c, 4, rfl, by decide, lt8 (by decide), s2, fun H3 d3 b3 s3 l3 u3 => ⟨1, d3, rfl, rfl, ?_⟩⟩
    refine ⟨st, c, 1 + d3, rfl, by omega, by omega, s3, fun H4 u xs b4 s4 nu hu4 hlen hx => ?_⟩
    have nus := strs_ne s4 hu4
    refine ⟨_, rfl, _, rfl, st, c, u, xs, rfl, s4, hu4, by omega, hx, fun H5 r ra kvs f srt num b5 s5 nra R5 okf okn => ?_⟩
    refine ⟨_, rfl, _, rfl, _, rfl, st, c, r, ra, u, kvs, f, srt, num, xs, rfl, s5, R5, okf, okn, b5 _ _ nus hu4, by omega, by omega, hx, fun H6 r6 a6 k6 f6 srt6 num6 b6 s6 R6 okf6 okn6 => ?_⟩
    refine ⟨r6, a6, k6, f6, srt6, num6, 10, rfl, R6, fun k => (okf6 k).mono (by decide), okn6.mono (by decide), by decide, fun H7 ro a7 k7 fo no s7 R7 okfo okno => ?_⟩
    replace R5 := ((R5.but b6 s5).same s7).mono (m' := 10) (by decide)
    replace s6 := s6.same s7
    clear s7 R6 okf6 okn6 b6 s5 nra b5 hx hlen hu4 nu nus s4 b4 s3 b3 s2 b2 s1
    refine' mid (C := _) (Inv := InvT K a st c) (fun key => ?w0) ?c0
    case w0 =>
      refine ⟨_, rfl, _, rfl, ite2 (fun e => ?_) (fun e => ?_)⟩
      case refine_2 => exact key _ _ ⟨_, _, _, _, _, _, _, _, r, ro, f, fo, srt, srt6, num, no, rfl, s6, ⟨_, _, R5⟩, okf, okn, ⟨_, _, R7⟩, fun k => (okfo k).mono (by decide), okno.mono (by decide)⟩
      obtain ⟨pn, g1, g2, g3, hs⟩ := id R5
      obtain ⟨po, o1, o2, o3, hso⟩ := id R7
      intro D nD
      have sD := same_new (o := .dK []) nD
      refine ⟨_, rfl, r, _, 1, _, rfl, rfl, SqT.of (sD _ _ g1), atI_nat (j := 1) rfl, _, rfl, r, _, 2, _, rfl, rfl, SqT.of (sD _ _ g1), atI_nat (j := 2) rfl, by show 3 ≤ sizeLine; decide, fun R nR => ?_⟩
      have sR := same_new (o := .tup [.ref D, .str srt, .ref pn]) nR
      have hD := sR _ _ (upd_same (H := H7) (a := D) (o := .dK []))
      have hR := upd_same (H := upd H7 D (.dK [])) (a := R) (o := .tup [.ref D, .str srt, .ref pn])
      have S8 := sD.trans sR
      generalize upd (upd H7 D (.dK [])) R (.tup [.ref D, .str srt, .ref pn]) = H8 at hD hR S8 ⊢
      intro D2 nD2
      have sD2 := same_new (o := .dK []) nD2
      refine ⟨_, rfl, ro, _, 1, _, rfl, rfl, SqT.of (sD2 _ _ (S8 _ _ o1)), atI_nat (j := 1) rfl, _, rfl, ro, _, 2, _, rfl, rfl, SqT.of (sD2 _ _ (S8 _ _ o1)), atI_nat (j := 2) rfl, by show 3 ≤ sizeLine; decide, fun R2 nR2 => ?_⟩
      have sR2 := same_new (o := .tup [.ref D2, .str srt6, .ref po]) nR2
      have S9 := sD2.trans sR2
      have S := S8.trans S9
      refine key _ _ ⟨_, _, _, _, _, _, _, _, R, R2, fun _ => (0, 1), fun _ => (0, 1), srt, srt6, num, no, rfl, s6.same S, ⟨D, [], pn, S9 _ _ hR, dm_nil (S9 _ _ hD) fun _ => rfl, g3.new S, hs⟩, fun _ => okb_zero 19, okn, ⟨D2, [], po, upd_same, dm_nil (sR2 _ _ upd_same) fun _ => rfl, o3.new S, hso⟩, fun _ => okb_zero 19, okno.mono (by decide)⟩
    case c0 =>
      clear R5 R7 okf okn okfo okno s6
      rintro σ H8 ⟨y2, y3, y4, y7, y8, y9, y10, y11, r, ro, f, fo, srt, so, num, no, rfl, s8, R8, okf, okn, O8, okfo, okno⟩
      -- what is handed in
      refine ⟨_, rfl, _, rfl, small2, fun T nT => ?_⟩
      have sT := same_new (o := .tup [.ref r, .ref ro]) nT
      have hT := upd_same (H := H8) (a := T) (o := .tup [.ref r, .ref ro])
      replace s8 := s8.same sT
      replace R8 := R8.same sT
      replace O8 := O8.same sT
      generalize upd H8 T (.tup [.ref r, .ref ro]) = H9 at hT s8 R8 O8 ⊢
      clear sT nT
      refine ⟨T, rfl, ⟨_, SqT.of hT⟩, fun D nD => ?_⟩
      have Ds := s8.fresh nD
      have hrow : ∀ (i : Nat) (x : V), [V.ref r, V.ref ro][i]? = some x → ∃ (rr : Addr) (ff : Key → Int × Int) (ss : Str) (nn : Int × Int), x = .ref rr ∧ RowB K H9 rr ff ss nn ∧ [(f, srt, num), (fo, so, no)][i]? = some (ff, ss, nn) := fun i x e => by
        match i, e with
        | 0, e => exact ⟨r, f, srt, num, (Option.some.inj e).symm, R8, rfl⟩
        | 1, e => exact ⟨ro, fo, so, no, (Option.some.inj e).symm, O8, rfl⟩
        | n + 2, e => cases e
      refine lc_it (walk_tup (K := K) (a := T) (xs := [V.ref r, V.ref ro])) (fun i H' => ∃ (hs : List Addr), H' D = some (.lst (hs.map V.ref)) ∧ (∀ x o, x ≠ D → H9 x = some o → H' x = some o) ∧ hs.length ≤ i ∧
          Paired (fun (t : Addr) (q : (Key → Int × Int) × Str × (Int × Int)) => RowB K H' t q.1 q.2.1 q.2.2 ∧ t ≠ D) hs ([(f, srt, num), (fo, so, no)].take i))
        ⟨[], upd_same, fun x o n2 e => by rw [upd_ne n2]; exact e, Nat.le_refl _, .nil⟩ (fun _ _ _ ⟨_, _, w2, _⟩ => SqT.of (w2 _ _ (ne_of_none hT nD) hT)) ?_ ?_
      · rintro i y H10 H' hi ⟨hs, w1, w2, w3, w4⟩ ⟨rfl, hy⟩
        obtain ⟨rr, ff, ss, nn', rfl, ⟨aa, kk, pp, h1, h2, h3, h4⟩, hd⟩ := hrow i y hy
        have kp : ∀ {x o}, H9 x = some o → H' x = some o := fun e => w2 _ _ (ne_of_none e nD) e
        have h1' := kp h1
        refine ⟨rfl, _, rfl, rr, _, 0, _, rfl, rfl, SqT.of h1', atI_nat (j := 0) rfl, aa, kk, rfl, .inl (kp h2.1), fun ch nch => ?_⟩
        have e1 := same_new (o := .dK kk) nch
        refine ⟨_, rfl, rr, _, 1, _, rfl, rfl, SqT.of (e1 _ _ h1'), atI_nat (j := 1) rfl, _, rfl, rr, _, 2, _, rfl, rfl, SqT.of (e1 _ _ h1'), atI_nat (j := 2) rfl, by show 3 ≤ sizeLine; decide, fun rh nrh => ?_⟩
        have e2 := same_new (o := .tup [.ref ch, .str ss, .ref pp]) nrh
        have E := e1.trans e2
        have kD := keep_l (o := .lst (hs.map V.ref ++ [.ref rh])) (E _ _ w1)
        have kD2 : ∀ {x o}, x ≠ D → H' x = some o → (upd (upd (upd H' ch (.dK kk)) rh (.tup [.ref ch, .str ss, .ref pp])) D (.lst (hs.map V.ref ++ [.ref rh]))) x = some o := fun n e => by
          rw [upd_ne n]
          exact E _ _ e
        have hm : ∀ {t : Addr} {ff : Key → Int × Int} {ss' : Str} {nn : Int × Int}, RowB K (upd (upd H' ch (.dK kk)) rh (.tup [.ref ch, .str ss, .ref pp])) t ff ss' nn → RowB K (upd (upd (upd H' ch (.dK kk)) rh (.tup [.ref ch, .str ss, .ref pp])) D (.lst (hs.map V.ref ++ [.ref rh]))) t ff ss' nn := fun ⟨aa', kk', pp', q1, q2, q3, q4⟩ => ⟨aa', kk', pp', kD _ _ q1, q2.updL (E _ _ w1), q3.updL (E _ _ w1), q4⟩
        have rhD : rh ≠ D := fun z => by
          have w9 := e1 _ _ w1
          rw [← z, nrh] at w9
          cases w9
        have tk1 : [(f, srt, num), (fo, so, no)].take (i + 1) = [(f, srt, num), (fo, so, no)].take i ++ [(ff, ss, nn')] := by
          rw [List.take_add_one, hd]
          rfl
        refine ⟨_, E _ _ w1, ?_, hs ++ [rh], ?_, ?_, ?_, ?_⟩
        · rw [List.length_map]
          have hi2 : i < 2 := hi
          exact small1000 (by omega)
        · rw [upd_same, List.map_append]
          rfl
        · intro x o n2 e
          exact kD2 n2 (w2 _ _ n2 e)
        · rw [List.length_append]
          exact Nat.succ_le_succ w3
        · rw [tk1]
          refine Paired.snocG (Paired.impG w4 fun t q' ht => ⟨hm (ht.1.same E), ht.2⟩) ⟨hm ⟨ch, kk, pp, upd_same, ?_, ?_, h4⟩, rhD⟩
          · have hk : DM True 10 H' aa kk ff := h2.same (fun x o e => kp e)
            exact (hk.copy nch).same e2
          · exact (h3.new (fun x o e => kp e)).new E
      · rintro H' ⟨hs, w1, w2, w3, w4⟩
        have S9 : Same H9 H' := fun x o e => w2 _ _ (ne_of_none e nD) e
        obtain ⟨h1, h2, rfl, Rh, Oh⟩ : ∃ h1 h2, hs = [h1, h2] ∧ RowB K H' h1 f srt num ∧ RowB K H' h2 fo so no := by
          cases w4 with
          | cons p1 w4 =>
            cases w4 with
            | cons p2 w4 =>
              cases w4
              exact ⟨_, _, rfl, p1.1, p2.1⟩
        replace s8 := s8.same S9
        replace R8 := R8.same S9
        replace O8 := O8.same S9
        have hD : H' D = some (.lst [.ref h1, .ref h2]) := w1
        clear w1 w2 w3 w4 S9 hrow hT
        clear nD
        -- what the plain rows are
        obtain ⟨FF, SS', NN, pl, okF, okN, hSs⟩ : ∃ FF SS' NN, Pl 241 f srt num FF SS' NN ∧ (∀ k, Okb 262 (FF k)) ∧ Okb 262 NN ∧ SS' ∈ sorts := by
          obtain ⟨aa, kk, pp, q1, q2, q3, q4⟩ := R8
          exact pl_ex q2 (by decide) okf okn q4
        obtain ⟨FO, SO, NO, plo, okFO, okNO, hSO⟩ : ∃ FF SS' NN, Pl 241 fo so no FF SS' NN ∧ (∀ k, Okb 262 (FF k)) ∧ Okb 262 NN ∧ SS' ∈ sorts := by
          obtain ⟨aa, kk, pp, q1, q2, q3, q4⟩ := O8
          exact pl_ex q2 (by decide) okfo okno q4
        have hsrt : srt ∈ sorts := by
          obtain ⟨aa, kk, pp, q1, q2, q3, q4⟩ := R8
          exact q4
        -- due
        obtain ⟨ra, rk, R8'⟩ := id R8
        refine ⟨_, rfl, r, ra, rk, f, srt, num, 10, 20, 241, FF, SS', NN, rfl, R8', okf, okn, by decide, by decide, by decide, pl, fun H10 rd ad kd s10 nrd nad Rd => ?_⟩
        obtain ⟨oa, ok, O8'⟩ := id (O8.same s10)
        refine ⟨_, rfl, ro, oa, ok, fo, so, no, 10, 20, 241, FO, SO, NO, rfl, O8', okfo, okno, by decide, by decide, by decide, plo, fun H11 rd2 ad2 kd2 s11 nrd2 nad2 Rd2 => ?_⟩
        have ne : rd ≠ rd2 := ne_of_none Rd.choose_spec.1 nrd2
        refine ⟨rd, rd2, ad, ad2, kd, kd2, _, _, _, _, _, _, 10, 10, rfl, rfl, ne, Rd.same s11, Rd2, fun e he => ?_⟩
        have S11 := s10.trans s11
        replace s8 := s8.same S11
        replace R8 := R8.same S11
        replace O8 := O8.same S11
        replace Rh := Rh.same S11
        replace Oh := Oh.same S11
        replace hD := S11 _ _ hD
        clear S11 s10 s11 nrd nad Rd O8' R8' nrd2 nad2 Rd2 ne
        have heo : e = true ↔ FO = FF ∧ SO = SS' ∧ NO = NN := he.trans ⟨fun z => ⟨z.1.symm, z.2.1.symm, z.2.2.symm⟩, fun z => ⟨z.1.symm, z.2.1.symm, z.2.2.symm⟩⟩
        -- told, either way round
        refine ⟨_, rfl, D, _, 0, _, rfl, rfl, SqL.of hD, atI_nat (j := 0) rfl, _, rfl, D, _, 1, _, rfl, rfl, SqL.of hD, atI_nat (j := 1) rfl, h1, h2, FF, FO, SS', SO, NN, NO, rfl, Rh.p okf okn pl, Oh.p okfo okno plo, fun H12 e1 s12 he1 => ?_⟩
        obtain rfl : e1 = e := Bool.eq_iff_iff.mpr (he1.trans he.symm)
        replace s8 := s8.same s12
        replace R8 := R8.same s12
        replace O8 := O8.same s12
        replace Rh := Rh.same s12
        replace Oh := Oh.same s12
        replace hD := s12 _ _ hD
        refine ⟨_, rfl, D, _, 1, _, rfl, rfl, SqL.of hD, atI_nat (j := 1) rfl, _, rfl, D, _, 0, _, rfl, rfl, SqL.of hD, atI_nat (j := 0) rfl, h2, h1, FO, FF, SO, SS', NO, NN, rfl, Oh.p okfo okno plo, Rh.p okf okn pl, fun H13 e2 s13 he2 => ?_⟩
        obtain rfl : e2 = e1 := Bool.eq_iff_iff.mpr (he2.trans heo.symm)
        refine ⟨small2, fun U nU => ?_⟩
        have sU := same_new (o := .tup [.bl e2, .bl e2]) nU
        have hU := upd_same (H := H13) (a := U) (o := .tup [.bl e2, .bl e2])
        have S13 := s13.trans sU
        replace s8 := s8.same S13
        replace R8 := R8.same S13
        replace O8 := O8.same S13
        replace Rh := Rh.same S13
        replace Oh := Oh.same S13
        replace hD := S13 _ _ hD
        generalize upd H13 U (.tup [.bl e2, .bl e2]) = H14 at hU s8 R8 O8 Rh Oh hD ⊢
        clear S13 s13 sU nU s12 he1 he2
        refine ⟨U, rfl, ⟨_, SqT.of hU⟩, for_tup (K := K) (a := U) (xs := [.bl e2, .bl e2]) (fun j σ H' => ∃ (y2 y3 y4 y9 y10 y11 : Option V), H' = H14 ∧ σ = [some (.ref a), some (.ref st), y2, y3, y4, some (.ref r), some (.ref ro), some (.ref D), some (.bl e2), y9, y10, y11])
          ⟨_, _, _, _, _, _, rfl, rfl⟩ (fun j σ H' _ ⟨_, _, _, _, _, _, e, _⟩ => by rw [e]; exact SqT.of hU) ?_ ?_⟩
        · rintro j x σ H' hx ⟨y2, y3, y4, y9, y10, y11, rfl, rfl⟩
          obtain rfl : x = .bl e2 := by
            match j, hx with
            | 0, z => exact (Option.some.inj z).symm
            | 1, z => exact (Option.some.inj z).symm
            | n + 2, z => cases z
          refine ⟨_, rfl, .bl e2, .ty "bool", .type "bool", .type "bool", true, rfl, .ty _, .base (.bl e2), kit_ty (by decide +kernel), _, rfl, iteF ?_⟩
          refine ⟨_, rfl, _, rfl, rfl, _, rfl, ite2 (fun z => ?_) (fun _ => ?_)⟩
          · exfalso
            have z' : (!decide (V.bl e2 = V.bl e2)) = true := z
            rw [decide_eq_true rfl] at z'
            cases z'
          · exact ⟨_, _, _, _, _, _, rfl, rfl⟩
        · rintro σ H' ⟨y2, y3, y4, y9, y10, y11, rfl, rfl⟩
          -- what was handed in stays
          refine ⟨_, rfl, _, rfl, _, rfl, small2, fun L nL => ?_⟩
          have sL := same_new (o := .lst [.ref r, .ref ro]) nL
          have hL := upd_same (H := H') (a := L) (o := .lst [.ref r, .ref ro])
          replace s8 := s8.same sL
          replace R8 := R8.same sL
          replace O8 := O8.same sL
          replace Rh := Rh.same sL
          replace Oh := Oh.same sL
          replace hD := sL _ _ hD
          refine ⟨8, D, L, _, _, by decide, rfl, rfl, SqL.of hD, SqL.of hL, .cons (xv_rowB Rh R8) (.cons (xv_rowB Oh O8) .nil), _, rfl, iteF ?_⟩
          generalize upd H' L (.lst [.ref r, .ref ro]) = H15 at s8 R8 O8 Rh Oh hD ⊢
          refine ⟨_, rfl, D, _, 0, _, rfl, rfl, SqL.of hD, atI_nat (j := 0) rfl, _, rfl, h1, r, FF, FF, SS', SS', NN, NN, rfl, Rh.p okf okn pl, R8.p okf okn pl, fun H16 e3 s16 he3 => ?_⟩
          obtain rfl : e3 = true := he3.mpr ⟨rfl, rfl, rfl⟩
          refine ⟨true, true, rfl, rfl, _, rfl, iteF ?_⟩
          replace s8 := s8.same s16
          replace Rh := Rh.same s16
          replace Oh := Oh.same s16
          replace hD := s16 _ _ hD
          clear he3 s16 sL nL hL R8 O8
          -- the row times a number
          refine ⟨_, rfl, D, _, 0, _, rfl, rfl, SqL.of hD, atI_nat (j := 0) rfl, _, rfl, st, c, rfl, s8, fun H17 pb nb b17 s17 hb17 okb nz => ?_⟩
          replace Rh := Rh.but b17 s8
          replace Oh := Oh.but b17 s8
          replace hD := b17 _ _ Ds hD
          have fb : FrT K H17 pb nb.1 nb.2 := FrT.of hb17
          obtain ⟨ha, hk, Rh'⟩ := id Rh
          refine ⟨h1, ha, pb, hk, f, srt, num, nb, 10, 20, 100, rfl, Rh', fb, okf, okn, okb, by decide, by decide, by decide, fun z => absurd z nz, fun _ H18 rv av kv s18 nrv nav Rv => ?_⟩
          replace s17 := s17.same s18
          replace Rh := Rh.same s18
          replace Oh := Oh.same s18
          replace hD := s18 _ _ hD
          have lf : ∀ k, Lo (f k) := fun k => lo_okb (okf k)
          have ln := lo_okb okn
          have Pv : RowP K H18 rv FF SS' NN := ⟨av, kv, _, _, _, 120, 341, Rv, fun k => okb_times (okf k) okb, okb_times okn okb, by decide, by decide, by decide, pl_far lf ln hsrt okb nz pl⟩
          refine ⟨_, rfl, _, rfl, D, _, 0, _, rfl, rfl, SqL.of hD, atI_nat (j := 0) rfl, rv, h1, FF, FF, SS', SS', NN, NN, rfl, Pv, Rh.p okf okn pl, fun H19 e4 s19 he4 => ?_⟩
          obtain rfl : e4 = true := he4.mpr ⟨rfl, rfl, rfl⟩
          refine ⟨true, true, rfl, rfl, _, rfl, iteF ?_⟩
          replace hD := s19 _ _ hD
          refine ⟨_, rfl, D, _, 1, _, rfl, rfl, SqL.of hD, atI_nat (j := 1) rfl, _, rfl, h2, rv, FO, FF, SO, SS', NO, NN, rfl, (Oh.same s19).p okfo okno plo, Pv.same s19, fun H20 e5 s20 he5 => ?_⟩
          obtain rfl : e5 = e2 := Bool.eq_iff_iff.mpr (he5.trans heo.symm)
          refine ⟨_, rfl, rfl, _, rfl, ite2 (fun z => ?_) (fun _ => ?_)⟩
          · exfalso
            have z' : (!decide (V.bl e5 = V.bl e5)) = true := z
            rw [decide_eq_true rfl] at z'
            cases z'
          · exact ⟨_, _, _, _, _, _, _, _, _, _, rfl, (s17.same s19).same s20⟩
end
end SS
namespace SS
open PySem PySem.Spec PyProof.Rows L2
/-! ### what the top leaves -/
set_option maxHeartbeats 4000000 in
theorem all_mk {l : PySem.W.OpenLaw} {w : World} {K : PySem.W.Frag} {h : Heap} {mg : Str → Option Value} {fa : Addr} (X : K.In h) (G : h.Ns mainGlobals mg) (hfa : mg "law" = some (.ref fa))
    {f0 : Addr} {od0 an0 : Option Addr} {sl0 : Array (Option Value)} {oc0 kV0 dc0 pm0 cd0 ct0 : Value}
    {f1 : Addr} {od1 an1 : Option Addr} {sl1 : Array (Option Value)} {oc1 kV1 dc1 pm1 cd1 ct1 : Value}
    {T1 : Addr} {odT1 : Option Addr} {slT1 : Array (Option Value)} {ocT1 : Value} {nT1 : Nat} {tT1 : Tok}
    {f2 : Addr} {od2 an2 : Option Addr} {sl2 : Array (Option Value)} {oc2 kV2 dc2 pm2 cd2 ct2 : Value}
    {f3 : Addr} {od3 an3 : Option Addr} {sl3 : Array (Option Value)} {oc3 kV3 dc3 pm3 cd3 ct3 : Value}
    {f4 : Addr} {od4 an4 : Option Addr} {sl4 : Array (Option Value)} {oc4 kV4 dc4 pm4 cd4 ct4 : Value}
    {f5 : Addr} {od5 an5 : Option Addr} {sl5 : Array (Option Value)} {oc5 kV5 dc5 pm5 cd5 ct5 : Value}
    {f6 : Addr} {od6 an6 : Option Addr} {sl6 : Array (Option Value)} {oc6 kV6 dc6 pm6 cd6 ct6 : Value}
    {f7 : Addr} {od7 an7 : Option Addr} {sl7 : Array (Option Value)} {oc7 kV7 dc7 pm7 cd7 ct7 : Value}
    {f8 : Addr} {od8 an8 : Option Addr} {sl8 : Array (Option Value)} {oc8 kV8 dc8 pm8 cd8 ct8 : Value}
    {f9 : Addr} {od9 an9 : Option Addr} {sl9 : Array (Option Value)} {oc9 kV9 dc9 pm9 cd9 ct9 : Value}
    {f10 : Addr} {od10 an10 : Option Addr} {sl10 : Array (Option Value)} {oc10 kV10 dc10 pm10 cd10 ct10 : Value}
    {f11 : Addr} {od11 an11 : Option Addr} {sl11 : Array (Option Value)} {oc11 kV11 dc11 pm11 cd11 ct11 : Value}
    {f12 : Addr} {od12 an12 : Option Addr} {sl12 : Array (Option Value)} {oc12 kV12 dc12 pm12 cd12 ct12 : Value}
    {f13 : Addr} {od13 an13 : Option Addr} {sl13 : Array (Option Value)} {oc13 kV13 dc13 pm13 cd13 ct13 : Value}
    {f14 : Addr} {od14 an14 : Option Addr} {sl14 : Array (Option Value)} {oc14 kV14 dc14 pm14 cd14 ct14 : Value}
    {f15 : Addr} {od15 an15 : Option Addr} {sl15 : Array (Option Value)} {oc15 kV15 dc15 pm15 cd15 ct15 : Value}
    {f16 : Addr} {od16 an16 : Option Addr} {sl16 : Array (Option Value)} {oc16 kV16 dc16 pm16 cd16 ct16 : Value}
    {f17 : Addr} {od17 an17 : Option Addr} {sl17 : Array (Option Value)} {oc17 kV17 dc17 pm17 cd17 ct17 : Value}
    {f18 : Addr} {od18 an18 : Option Addr} {sl18 : Array (Option Value)} {oc18 kV18 dc18 pm18 cd18 ct18 : Value}
    {f19 : Addr} {od19 an19 : Option Addr} {sl19 : Array (Option Value)} {oc19 kV19 dc19 pm19 cd19 ct19 : Value}
    {f20 : Addr} {od20 an20 : Option Addr} {sl20 : Array (Option Value)} {oc20 kV20 dc20 pm20 cd20 ct20 : Value}
    {f21 : Addr} {od21 an21 : Option Addr} {sl21 : Array (Option Value)} {oc21 kV21 dc21 pm21 cd21 ct21 : Value}
    {f22 : Addr} {od22 an22 : Option Addr} {sl22 : Array (Option Value)} {oc22 kV22 dc22 pm22 cd22 ct22 : Value}
    {f23 : Addr} {od23 an23 : Option Addr} {sl23 : Array (Option Value)} {oc23 kV23 dc23 pm23 cd23 ct23 : Value}
    {f24 : Addr} {od24 an24 : Option Addr} {sl24 : Array (Option Value)} {oc24 kV24 dc24 pm24 cd24 ct24 : Value}
    {f25 : Addr} {od25 an25 : Option Addr} {sl25 : Array (Option Value)} {oc25 kV25 dc25 pm25 cd25 ct25 : Value}
    {f26 : Addr} {od26 an26 : Option Addr} {sl26 : Array (Option Value)} {oc26 kV26 dc26 pm26 cd26 ct26 : Value}
    {f27 : Addr} {od27 an27 : Option Addr} {sl27 : Array (Option Value)} {oc27 kV27 dc27 pm27 cd27 ct27 : Value}
    {f28 : Addr} {od28 an28 : Option Addr} {sl28 : Array (Option Value)} {oc28 kV28 dc28 pm28 cd28 ct28 : Value}
    {f29 : Addr} {od29 an29 : Option Addr} {sl29 : Array (Option Value)} {oc29 kV29 dc29 pm29 cd29 ct29 : Value}
    {f30 : Addr} {od30 an30 : Option Addr} {sl30 : Array (Option Value)} {oc30 kV30 dc30 pm30 cd30 ct30 : Value}
    {f31 : Addr} {od31 an31 : Option Addr} {sl31 : Array (Option Value)} {oc31 kV31 dc31 pm31 cd31 ct31 : Value}
    {f32 : Addr} {od32 an32 : Option Addr} {sl32 : Array (Option Value)} {oc32 kV32 dc32 pm32 cd32 ct32 : Value}
    {f33 : Addr} {od33 an33 : Option Addr} {sl33 : Array (Option Value)} {oc33 kV33 dc33 pm33 cd33 ct33 : Value}
    {f34 : Addr} {od34 an34 : Option Addr} {sl34 : Array (Option Value)} {oc34 kV34 dc34 pm34 cd34 ct34 : Value}
    {f35 : Addr} {od35 an35 : Option Addr} {sl35 : Array (Option Value)} {oc35 kV35 dc35 pm35 cd35 ct35 : Value}
    {f36 : Addr} {od36 an36 : Option Addr} {sl36 : Array (Option Value)} {oc36 kV36 dc36 pm36 cd36 ct36 : Value}
    {C : Addr}
    {CN : Addr}
    {aN : Addr} {odN : Option Addr} {tN0 tN1 : Tok} {nN : Nat} {slN : Array (Option Value)}
    {aO : Addr} {odO : Option Addr} {tO0 tO1 : Tok} {nO : Nat} {slO : Array (Option Value)}
    {aM : Addr} {odM : Option Addr} {tM0 tM1 : Tok} {nM : Nat} {slM : Array (Option Value)}
    {tSb : Tok}
    {aT : Addr} {esT : Array DictEntry} {nR : Nat} {tR0 tR1 tR2 tR3 tR4 : Tok}
    (a0 : PySem.W.nsIn K mainGlobals "common_divisor" = some (some (.ref f0)))
    (l0 : K.lookup f0 = some ⟨oc0, od0, .func (PySem.W.fnOf "common_divisor" "common_divisor" (defArgs sCd) (defBody sCd) (defScope sCd) .none kV0 dc0 pm0 an0 cd0 ct0), sl0⟩)
    (c0 : PySem.W.codeIn K cd0 "common_divisor" = true)
    (k0 : PySem.W.keepIn K (.ref f0) = true)
    (a1 : PySem.W.nsIn K mainGlobals "fraction_of" = some (some (.ref f1)))
    (l1 : K.lookup f1 = some ⟨oc1, od1, .func (PySem.W.fnOf "fraction_of" "fraction_of" (defArgs sFo) (defBody sFo) (defScope sFo) (.ref T1) kV1 dc1 pm1 an1 cd1 ct1), sl1⟩)
    (t1 : K.lookup T1 = some ⟨ocT1, odT1, .seq #[.int 1 tT1] nT1, slT1⟩)
    (c1 : PySem.W.codeIn K cd1 "fraction_of" = true)
    (k1 : PySem.W.keepIn K (.ref f1) = true)
    (a2 : PySem.W.nsIn K mainGlobals "are_short" = some (some (.ref f2)))
    (l2 : K.lookup f2 = some ⟨oc2, od2, .func (PySem.W.fnOf "are_short" "are_short" (defArgs sAre) (defBody sAre) (defScope sAre) .none kV2 dc2 pm2 an2 cd2 ct2), sl2⟩)
    (c2 : PySem.W.codeIn K cd2 "are_short" = true)
    (k2 : PySem.W.keepIn K (.ref f2) = true)
    (a3 : PySem.W.nsIn K mainGlobals "plus" = some (some (.ref f3)))
    (l3 : K.lookup f3 = some ⟨oc3, od3, .func (PySem.W.fnOf "plus" "plus" (defArgs sPlus) (defBody sPlus) (defScope sPlus) .none kV3 dc3 pm3 an3 cd3 ct3), sl3⟩)
    (c3 : PySem.W.codeIn K cd3 "plus" = true)
    (k3 : PySem.W.keepIn K (.ref f3) = true)
    (a4 : PySem.W.nsIn K mainGlobals "times" = some (some (.ref f4)))
    (l4 : K.lookup f4 = some ⟨oc4, od4, .func (PySem.W.fnOf "times" "times" (defArgs sTimes) (defBody sTimes) (defScope sTimes) .none kV4 dc4 pm4 an4 cd4 ct4), sl4⟩)
    (c4 : PySem.W.codeIn K cd4 "times" = true)
    (k4 : PySem.W.keepIn K (.ref f4) = true)
    (a5 : PySem.W.nsIn K mainGlobals "is_less" = some (some (.ref f5)))
    (l5 : K.lookup f5 = some ⟨oc5, od5, .func (PySem.W.fnOf "is_less" "is_less" (defArgs sLess) (defBody sLess) (defScope sLess) .none kV5 dc5 pm5 an5 cd5 ct5), sl5⟩)
    (c5 : PySem.W.codeIn K cd5 "is_less" = true)
    (k5 : PySem.W.keepIn K (.ref f5) = true)
    (a6 : PySem.W.nsIn K mainGlobals "without_noughts" = some (some (.ref f6)))
    (l6 : K.lookup f6 = some ⟨oc6, od6, .func (PySem.W.fnOf "without_noughts" "without_noughts" (defArgs sWn) (defBody sWn) (defScope sWn) .none kV6 dc6 pm6 an6 cd6 ct6), sl6⟩)
    (c6 : PySem.W.codeIn K cd6 "without_noughts" = true)
    (k6 : PySem.W.keepIn K (.ref f6) = true)
    (a7 : PySem.W.nsIn K mainGlobals "sum_times" = some (some (.ref f7)))
    (l7 : K.lookup f7 = some ⟨oc7, od7, .func (PySem.W.fnOf "sum_times" "sum_times" (defArgs sSumTimes) (defBody sSumTimes) (defScope sSumTimes) .none kV7 dc7 pm7 an7 cd7 ct7), sl7⟩)
    (c7 : PySem.W.codeIn K cd7 "sum_times" = true)
    (k7 : PySem.W.keepIn K (.ref f7) = true)
    (a8 : PySem.W.nsIn K mainGlobals "worth_at" = some (some (.ref f8)))
    (l8 : K.lookup f8 = some ⟨oc8, od8, .func (PySem.W.fnOf "worth_at" "worth_at" (defArgs sWorth) (defBody sWorth) (defScope sWorth) .none kV8 dc8 pm8 an8 cd8 ct8), sl8⟩)
    (c8 : PySem.W.codeIn K cd8 "worth_at" = true)
    (k8 : PySem.W.keepIn K (.ref f8) = true)
    (a9 : PySem.W.nsIn K mainGlobals "keeps" = some (some (.ref f9)))
    (l9 : K.lookup f9 = some ⟨oc9, od9, .func (PySem.W.fnOf "keeps" "keeps" (defArgs sKeeps) (defBody sKeeps) (defScope sKeeps) .none kV9 dc9 pm9 an9 cd9 ct9), sl9⟩)
    (c9 : PySem.W.codeIn K cd9 "keeps" = true)
    (k9 : PySem.W.keepIn K (.ref f9) = true)
    (a10 : PySem.W.nsIn K mainGlobals "row_times" = some (some (.ref f10)))
    (l10 : K.lookup f10 = some ⟨oc10, od10, .func (PySem.W.fnOf "row_times" "row_times" (defArgs sRowTimes) (defBody sRowTimes) (defScope sRowTimes) .none kV10 dc10 pm10 an10 cd10 ct10), sl10⟩)
    (c10 : PySem.W.codeIn K cd10 "row_times" = true)
    (k10 : PySem.W.keepIn K (.ref f10) = true)
    (a11 : PySem.W.nsIn K mainGlobals "whole_maker" = some (some (.ref f11)))
    (l11 : K.lookup f11 = some ⟨oc11, od11, .func (PySem.W.fnOf "whole_maker" "whole_maker" (defArgs sMaker) (defBody sMaker) (defScope sMaker) .none kV11 dc11 pm11 an11 cd11 ct11), sl11⟩)
    (c11 : PySem.W.codeIn K cd11 "whole_maker" = true)
    (k11 : PySem.W.keepIn K (.ref f11) = true)
    (a12 : PySem.W.nsIn K mainGlobals "plain_row" = some (some (.ref f12)))
    (l12 : K.lookup f12 = some ⟨oc12, od12, .func (PySem.W.fnOf "plain_row" "plain_row" (defArgs sPlain) (defBody sPlain) (defScope sPlain) .none kV12 dc12 pm12 an12 cd12 ct12), sl12⟩)
    (c12 : PySem.W.codeIn K cd12 "plain_row" = true)
    (k12 : PySem.W.keepIn K (.ref f12) = true)
    (a13 : PySem.W.nsIn K mainGlobals "same_row" = some (some (.ref f13)))
    (l13 : K.lookup f13 = some ⟨oc13, od13, .func (PySem.W.fnOf "same_row" "same_row" (defArgs sSameRow) (defBody sSameRow) (defScope sSameRow) .none kV13 dc13 pm13 an13 cd13 ct13), sl13⟩)
    (c13 : PySem.W.codeIn K cd13 "same_row" = true)
    (k13 : PySem.W.keepIn K (.ref f13) = true)
    (a14 : PySem.W.nsIn K mainGlobals "_law_fresh" = some (some (.ref f14)))
    (l14 : K.lookup f14 = some ⟨oc14, od14, .func (PySem.W.fnOf "_law_fresh" "_law_fresh" (defArgs sFresh) (defBody sFresh) (defScope sFresh) .none kV14 dc14 pm14 an14 cd14 ct14), sl14⟩)
    (c14 : PySem.W.codeIn K cd14 "_law_fresh" = true)
    (k14 : PySem.W.keepIn K (.ref f14) = true)
    (a15 : PySem.W.nsIn K mainGlobals "_law_mixed" = some (some (.ref f15)))
    (l15 : K.lookup f15 = some ⟨oc15, od15, .func (PySem.W.fnOf "_law_mixed" "_law_mixed" (defArgs sMixed) (defBody sMixed) (defScope sMixed) .none kV15 dc15 pm15 an15 cd15 ct15), sl15⟩)
    (c15 : PySem.W.codeIn K cd15 "_law_mixed" = true)
    (k15 : PySem.W.keepIn K (.ref f15) = true)
    (a16 : PySem.W.nsIn K mainGlobals "_law_fill" = some (some (.ref f16)))
    (l16 : K.lookup f16 = some ⟨oc16, od16, .func (PySem.W.fnOf "_law_fill" "_law_fill" (defArgs sFill) (defBody sFill) (defScope sFill) .none kV16 dc16 pm16 an16 cd16 ct16), sl16⟩)
    (c16 : PySem.W.codeIn K cd16 "_law_fill" = true)
    (k16 : PySem.W.keepIn K (.ref f16) = true)
    (a17 : PySem.W.nsIn K mainGlobals "_law_take" = some (some (.ref f17)))
    (l17 : K.lookup f17 = some ⟨oc17, od17, .func (PySem.W.fnOf "_law_take" "_law_take" (defArgs sTake) (defBody sTake) (defScope sTake) .none kV17 dc17 pm17 an17 cd17 ct17), sl17⟩)
    (c17 : PySem.W.codeIn K cd17 "_law_take" = true)
    (k17 : PySem.W.keepIn K (.ref f17) = true)
    (a18 : PySem.W.nsIn K mainGlobals "_law_shared" = some (some (.ref f18)))
    (l18 : K.lookup f18 = some ⟨oc18, od18, .func (PySem.W.fnOf "_law_shared" "_law_shared" (defArgs sSh) (defBody sSh) (defScope sSh) .none kV18 dc18 pm18 an18 cd18 ct18), sl18⟩)
    (c18 : PySem.W.codeIn K cd18 "_law_shared" = true)
    (k18 : PySem.W.keepIn K (.ref f18) = true)
    (a19 : PySem.W.nsIn K mainGlobals "_law_frac" = some (some (.ref f19)))
    (l19 : K.lookup f19 = some ⟨oc19, od19, .func (PySem.W.fnOf "_law_frac" "_law_frac" (defArgs sFrac) (defBody sFrac) (defScope sFrac) .none kV19 dc19 pm19 an19 cd19 ct19), sl19⟩)
    (c19 : PySem.W.codeIn K cd19 "_law_frac" = true)
    (k19 : PySem.W.keepIn K (.ref f19) = true)
    (a20 : PySem.W.nsIn K mainGlobals "_law_plus" = some (some (.ref f20)))
    (l20 : K.lookup f20 = some ⟨oc20, od20, .func (PySem.W.fnOf "_law_plus" "_law_plus" (defArgs sLPlus) (defBody sLPlus) (defScope sLPlus) .none kV20 dc20 pm20 an20 cd20 ct20), sl20⟩)
    (c20 : PySem.W.codeIn K cd20 "_law_plus" = true)
    (k20 : PySem.W.keepIn K (.ref f20) = true)
    (a21 : PySem.W.nsIn K mainGlobals "_law_times" = some (some (.ref f21)))
    (l21 : K.lookup f21 = some ⟨oc21, od21, .func (PySem.W.fnOf "_law_times" "_law_times" (defArgs sLTimes) (defBody sLTimes) (defScope sLTimes) .none kV21 dc21 pm21 an21 cd21 ct21), sl21⟩)
    (c21 : PySem.W.codeIn K cd21 "_law_times" = true)
    (k21 : PySem.W.keepIn K (.ref f21) = true)
    (a22 : PySem.W.nsIn K mainGlobals "_law_less" = some (some (.ref f22)))
    (l22 : K.lookup f22 = some ⟨oc22, od22, .func (PySem.W.fnOf "_law_less" "_law_less" (defArgs sLLess) (defBody sLLess) (defScope sLLess) .none kV22 dc22 pm22 an22 cd22 ct22), sl22⟩)
    (c22 : PySem.W.codeIn K cd22 "_law_less" = true)
    (k22 : PySem.W.keepIn K (.ref f22) = true)
    (a23 : PySem.W.nsIn K mainGlobals "_law_worth" = some (some (.ref f23)))
    (l23 : K.lookup f23 = some ⟨oc23, od23, .func (PySem.W.fnOf "_law_worth" "_law_worth" (defArgs sLWorth) (defBody sLWorth) (defScope sLWorth) .none kV23 dc23 pm23 an23 cd23 ct23), sl23⟩)
    (c23 : PySem.W.codeIn K cd23 "_law_worth" = true)
    (k23 : PySem.W.keepIn K (.ref f23) = true)
    (a24 : PySem.W.nsIn K mainGlobals "_law_keeps" = some (some (.ref f24)))
    (l24 : K.lookup f24 = some ⟨oc24, od24, .func (PySem.W.fnOf "_law_keeps" "_law_keeps" (defArgs sLKeeps) (defBody sLKeeps) (defScope sLKeeps) .none kV24 dc24 pm24 an24 cd24 ct24), sl24⟩)
    (c24 : PySem.W.codeIn K cd24 "_law_keeps" = true)
    (k24 : PySem.W.keepIn K (.ref f24) = true)
    (a25 : PySem.W.nsIn K mainGlobals "_law_add" = some (some (.ref f25)))
    (l25 : K.lookup f25 = some ⟨oc25, od25, .func (PySem.W.fnOf "_law_add" "_law_add" (defArgs sAdd) (defBody sAdd) (defScope sAdd) .none kV25 dc25 pm25 an25 cd25 ct25), sl25⟩)
    (c25 : PySem.W.codeIn K cd25 "_law_add" = true)
    (k25 : PySem.W.keepIn K (.ref f25) = true)
    (a26 : PySem.W.nsIn K mainGlobals "_law_some_name" = some (some (.ref f26)))
    (l26 : K.lookup f26 = some ⟨oc26, od26, .func (PySem.W.fnOf "_law_some_name" "_law_some_name" (defArgs sSname) (defBody sSname) (defScope sSname) .none kV26 dc26 pm26 an26 cd26 ct26), sl26⟩)
    (c26 : PySem.W.codeIn K cd26 "_law_some_name" = true)
    (k26 : PySem.W.keepIn K (.ref f26) = true)
    (a27 : PySem.W.nsIn K mainGlobals "_law_names" = some (some (.ref f27)))
    (l27 : K.lookup f27 = some ⟨oc27, od27, .func (PySem.W.fnOf "_law_names" "_law_names" (defArgs sNames) (defBody sNames) (defScope sNames) .none kV27 dc27 pm27 an27 cd27 ct27), sl27⟩)
    (c27 : PySem.W.codeIn K cd27 "_law_names" = true)
    (k27 : PySem.W.keepIn K (.ref f27) = true)
    (a28 : PySem.W.nsIn K mainGlobals "_law_number" = some (some (.ref f28)))
    (l28 : K.lookup f28 = some ⟨oc28, od28, .func (PySem.W.fnOf "_law_number" "_law_number" (defArgs sNumber) (defBody sNumber) (defScope sNumber) .none kV28 dc28 pm28 an28 cd28 ct28), sl28⟩)
    (c28 : PySem.W.codeIn K cd28 "_law_number" = true)
    (k28 : PySem.W.keepIn K (.ref f28) = true)
    (a29 : PySem.W.nsIn K mainGlobals "_law_some_sum" = some (some (.ref f29)))
    (l29 : K.lookup f29 = some ⟨oc29, od29, .func (PySem.W.fnOf "_law_some_sum" "_law_some_sum" (defArgs sSsum) (defBody sSsum) (defScope sSsum) .none kV29 dc29 pm29 an29 cd29 ct29), sl29⟩)
    (c29 : PySem.W.codeIn K cd29 "_law_some_sum" = true)
    (k29 : PySem.W.keepIn K (.ref f29) = true)
    (a30 : PySem.W.nsIn K mainGlobals "_law_short" = some (some (.ref f30)))
    (l30 : K.lookup f30 = some ⟨oc30, od30, .func (PySem.W.fnOf "_law_short" "_law_short" (defArgs sShort) (defBody sShort) (defScope sShort) .none kV30 dc30 pm30 an30 cd30 ct30), sl30⟩)
    (c30 : PySem.W.codeIn K cd30 "_law_short" = true)
    (k30 : PySem.W.keepIn K (.ref f30) = true)
    (a31 : PySem.W.nsIn K mainGlobals "_law_far_number" = some (some (.ref f31)))
    (l31 : K.lookup f31 = some ⟨oc31, od31, .func (PySem.W.fnOf "_law_far_number" "_law_far_number" (defArgs sFar) (defBody sFar) (defScope sFar) .none kV31 dc31 pm31 an31 cd31 ct31), sl31⟩)
    (c31 : PySem.W.codeIn K cd31 "_law_far_number" = true)
    (k31 : PySem.W.keepIn K (.ref f31) = true)
    (a32 : PySem.W.nsIn K mainGlobals "_law_any_row" = some (some (.ref f32)))
    (l32 : K.lookup f32 = some ⟨oc32, od32, .func (PySem.W.fnOf "_law_any_row" "_law_any_row" (defArgs sAnyRow) (defBody sAnyRow) (defScope sAnyRow) .none kV32 dc32 pm32 an32 cd32 ct32), sl32⟩)
    (c32 : PySem.W.codeIn K cd32 "_law_any_row" = true)
    (k32 : PySem.W.keepIn K (.ref f32) = true)
    (a33 : PySem.W.nsIn K mainGlobals "_law_plain" = some (some (.ref f33)))
    (l33 : K.lookup f33 = some ⟨oc33, od33, .func (PySem.W.fnOf "_law_plain" "_law_plain" (defArgs sLPlain) (defBody sLPlain) (defScope sLPlain) .none kV33 dc33 pm33 an33 cd33 ct33), sl33⟩)
    (c33 : PySem.W.codeIn K cd33 "_law_plain" = true)
    (k33 : PySem.W.keepIn K (.ref f33) = true)
    (a34 : PySem.W.nsIn K mainGlobals "_law_other_row" = some (some (.ref f34)))
    (l34 : K.lookup f34 = some ⟨oc34, od34, .func (PySem.W.fnOf "_law_other_row" "_law_other_row" (defArgs sOther) (defBody sOther) (defScope sOther) .none kV34 dc34 pm34 an34 cd34 ct34), sl34⟩)
    (c34 : PySem.W.codeIn K cd34 "_law_other_row" = true)
    (k34 : PySem.W.keepIn K (.ref f34) = true)
    (a35 : PySem.W.nsIn K mainGlobals "_law_bounded" = some (some (.ref f35)))
    (l35 : K.lookup f35 = some ⟨oc35, od35, .func (PySem.W.fnOf "_law_bounded" "_law_bounded" (defArgs sBounded) (defBody sBounded) (defScope sBounded) .none kV35 dc35 pm35 an35 cd35 ct35), sl35⟩)
    (c35 : PySem.W.codeIn K cd35 "_law_bounded" = true)
    (k35 : PySem.W.keepIn K (.ref f35) = true)
    (a36 : PySem.W.nsIn K mainGlobals "law" = some (some (.ref f36)))
    (l36 : K.lookup f36 = some ⟨oc36, od36, .func (PySem.W.fnOf "law" "law" (defArgs sLaw) (defBody sLaw) (defScope sLaw) .none kV36 dc36 pm36 an36 cd36 ct36), sl36⟩)
    (c36 : PySem.W.codeIn K cd36 "law" = true)
    (k36 : PySem.W.keepIn K (.ref f36) = true)
    (z_abs : PySem.W.nsIn K mainGlobals "abs" = some none)
    (z_bool : PySem.W.nsIn K mainGlobals "bool" = some none)
    (z_dict : PySem.W.nsIn K mainGlobals "dict" = some none)
    (z_enumerate : PySem.W.nsIn K mainGlobals "enumerate" = some none)
    (z_int : PySem.W.nsIn K mainGlobals "int" = some none)
    (z_isinstance : PySem.W.nsIn K mainGlobals "isinstance" = some none)
    (z_len : PySem.W.nsIn K mainGlobals "len" = some none)
    (z_list : PySem.W.nsIn K mainGlobals "list" = some none)
    (z_min : PySem.W.nsIn K mainGlobals "min" = some none)
    (z_range : PySem.W.nsIn K mainGlobals "range" = some none)
    (g_C : PySem.W.nsIn K mainGlobals "NoFraction" = some (some (.ref C)))
    (x_C : PySem.W.excIn K C [.type "ValueError", .type "Exception", .type "BaseException", .type "object"] "ValueError.__new__" = true)
    (k_C : PySem.W.keepIn K (.ref C) = true)
    (b_C : PySem.W.subIn K (.ref C) (.type "BaseException") = some true)
    (t_C : PySem.W.typeIn K (.ref C) = some (.type "type"))
    (g_CN : PySem.W.nsIn K mainGlobals "NoNumber" = some (some (.ref CN)))
    (x_CN : PySem.W.excIn K CN [.type "ValueError", .type "Exception", .type "BaseException", .type "object"] "ValueError.__new__" = true)
    (k_CN : PySem.W.keepIn K (.ref CN) = true)
    (b_CN : PySem.W.subIn K (.ref CN) (.type "BaseException") = some true)
    (t_CN : PySem.W.typeIn K (.ref CN) = some (.type "type"))
    (aNn : PySem.W.nsIn K mainGlobals "NOUGHT" = some (some (.ref aN)))
    (lN : K.lookup aN = some ⟨.type "tuple", odN, .seq #[.int 0 tN0, .int 1 tN1] nN, slN⟩)
    (aOn : PySem.W.nsIn K mainGlobals "ONE" = some (some (.ref aO)))
    (lO : K.lookup aO = some ⟨.type "tuple", odO, .seq #[.int 1 tO0, .int 1 tO1] nO, slO⟩)
    (aMn : PySem.W.nsIn K mainGlobals "MINUS_ONE" = some (some (.ref aM)))
    (lM : K.lookup aM = some ⟨.type "tuple", odM, .seq #[.int (-1) tM0, .int 1 tM1] nM, slM⟩)
    (aSb : PySem.W.nsIn K mainGlobals "SHORT_BITS" = some (some (.int 256 tSb)))
    (aTn : PySem.W.nsIn K mainGlobals "TURNED_SORTS" = some (some (.ref aT)))
    (lT : K.lookup aT = some ⟨.type "dict", none, .dict esT nR, #[]⟩)
    (d_kT : PySem.W.KeysLit w.params esT.toList)
    (hT0 : PySem.W.nsIn K aT "is" = some (some (.str "is" tR0)))
    (hT1 : PySem.W.nsIn K aT "most" = some (some (.str "least" tR1)))
    (hT2 : PySem.W.nsIn K aT "least" = some (some (.str "most" tR2)))
    (hT3 : PySem.W.nsIn K aT "below" = some (some (.str "above" tR3)))
    (hT4 : PySem.W.nsIn K aT "above" = some (some (.str "below" tR4)))
    :
    ∃ fd : FuncData, (∀ (s : Shared) (v : Value), BindsTo s fd ⟨[v], []⟩ [("_law_script", v)]) ∧ ∀ base : Heap, K.In base → base.Ns mainGlobals mg → FnOk l.prog w K mg base CX0 9 fa fd ["_law_script"] (spLaw K) := by
  have e := hfa.symm.trans (PySem.W.mg_of X G a36)
  cases e
  have F0 := fun_mk (st := sCd) l0 c0 k0
  have b0 := F0.binds (ps := ["a", "b"]) fun _ _ _ _ _ _ us hl => match us, hl with | [_, _], _ => rfl
  have m0 := PySem.W.mg_of X G a0
  have F1 : FunD K "fraction_of" "fraction_of" (defArgs sFo) (defBody sFo) (defScope sFo) [.int 1] [] f1 _ := ⟨⟨oc1, od1, .ref T1, kV1, dc1, pm1, an1, cd1, ct1, sl1, rfl, l1, c1, .inr ⟨by decide, T1, _, [.int 1 tT1], nT1, rfl, t1, rfl, .cons ⟨_, rfl⟩ .nil⟩, .inl rfl⟩, k1⟩
  obtain ⟨ds1, vd1, b1⟩ := F1.binds1 (ps := ["top", "bottom"]) 2 1 (by decide) rfl fun T kV doc pm an cdv ct us its hl hi => match us, its, hl, hi with | [_, _], [_], _, _ => ⟨_, rfl, rfl⟩
  obtain ⟨es1, ve1, d1⟩ := F1.binds1 (ps := ["top", "bottom"]) 1 0 (by decide) rfl fun T kV doc pm an cdv ct us its hl hi => match us, its, hl, hi with | [_], [_], _, _ => ⟨_, rfl, rfl⟩
  have m1 := PySem.W.mg_of X G a1
  have F2 := fun_mk (st := sAre) l2 c2 k2
  have b2 := F2.binds (ps := ["a", "b"]) fun _ _ _ _ _ _ us hl => match us, hl with | [_, _], _ => rfl
  have m2 := PySem.W.mg_of X G a2
  have F3 := fun_mk (st := sPlus) l3 c3 k3
  have b3 := F3.binds (ps := ["a", "b"]) fun _ _ _ _ _ _ us hl => match us, hl with | [_, _], _ => rfl
  have m3 := PySem.W.mg_of X G a3
  have F4 := fun_mk (st := sTimes) l4 c4 k4
  have b4 := F4.binds (ps := ["a", "b"]) fun _ _ _ _ _ _ us hl => match us, hl with | [_, _], _ => rfl
  have m4 := PySem.W.mg_of X G a4
  have F5 := fun_mk (st := sLess) l5 c5 k5
  have b5 := F5.binds (ps := ["a", "b"]) fun _ _ _ _ _ _ us hl => match us, hl with | [_, _], _ => rfl
  have m5 := PySem.W.mg_of X G a5
  have F6 := fun_mk (st := sWn) l6 c6 k6
  have b6 := F6.binds (ps := ["numbers"]) fun _ _ _ _ _ _ us hl => match us, hl with | [_], _ => rfl
  have m6 := PySem.W.mg_of X G a6
  have F7 := fun_mk (st := sSumTimes) l7 c7 k7
  have b7 := F7.binds (ps := ["one", "number"]) fun _ _ _ _ _ _ us hl => match us, hl with | [_, _], _ => rfl
  have m7 := PySem.W.mg_of X G a7
  have F8 := fun_mk (st := sWorth) l8 c8 k8
  have b8 := F8.binds (ps := ["one", "point"]) fun _ _ _ _ _ _ us hl => match us, hl with | [_, _], _ => rfl
  have m8 := PySem.W.mg_of X G a8
  have F9 := fun_mk (st := sKeeps) l9 c9 k9
  have b9 := F9.binds (ps := ["row", "point"]) fun _ _ _ _ _ _ us hl => match us, hl with | [_, _], _ => rfl
  have m9 := PySem.W.mg_of X G a9
  have F10 := fun_mk (st := sRowTimes) l10 c10 k10
  have b10 := F10.binds (ps := ["row", "number"]) fun _ _ _ _ _ _ us hl => match us, hl with | [_, _], _ => rfl
  have m10 := PySem.W.mg_of X G a10
  have F11 := fun_mk (st := sMaker) l11 c11 k11
  have b11 := F11.binds (ps := ["numbers"]) fun _ _ _ _ _ _ us hl => match us, hl with | [_], _ => rfl
  have m11 := PySem.W.mg_of X G a11
  have F12 := fun_mk (st := sPlain) l12 c12 k12
  have b12 := F12.binds (ps := ["row"]) fun _ _ _ _ _ _ us hl => match us, hl with | [_], _ => rfl
  have m12 := PySem.W.mg_of X G a12
  have F13 := fun_mk (st := sSameRow) l13 c13 k13
  have b13 := F13.binds (ps := ["one", "other"]) fun _ _ _ _ _ _ us hl => match us, hl with | [_, _], _ => rfl
  have m13 := PySem.W.mg_of X G a13
  have F14 := fun_mk (st := sFresh) l14 c14 k14
  have b14 := F14.binds (ps := ["_law_script"]) fun _ _ _ _ _ _ us hl => match us, hl with | [_], _ => rfl
  have m14 := PySem.W.mg_of X G a14
  have F15 := fun_mk (st := sMixed) l15 c15 k15
  have b15 := F15.binds (ps := ["_law_seed"]) fun _ _ _ _ _ _ us hl => match us, hl with | [_], _ => rfl
  have m15 := PySem.W.mg_of X G a15
  have F16 := fun_mk (st := sFill) l16 c16 k16
  have b16 := F16.binds (ps := ["_law_state"]) fun _ _ _ _ _ _ us hl => match us, hl with | [_], _ => rfl
  have m16 := PySem.W.mg_of X G a16
  have F17 := fun_mk (st := sTake) l17 c17 k17
  have b17 := F17.binds (ps := ["_law_state", "_law_many"]) fun _ _ _ _ _ _ us hl => match us, hl with | [_, _], _ => rfl
  have m17 := PySem.W.mg_of X G a17
  have F18 := fun_mk (st := sSh) l18 c18 k18
  have b18 := F18.binds (ps := ["_law_one", "_law_other"]) fun _ _ _ _ _ _ us hl => match us, hl with | [_, _], _ => rfl
  have m18 := PySem.W.mg_of X G a18
  have F19 := fun_mk (st := sFrac) l19 c19 k19
  have b19 := F19.binds (ps := ["_law_top", "_law_bottom"]) fun _ _ _ _ _ _ us hl => match us, hl with | [_, _], _ => rfl
  have m19 := PySem.W.mg_of X G a19
  have F20 := fun_mk (st := sLPlus) l20 c20 k20
  have b20 := F20.binds (ps := ["_law_a", "_law_b"]) fun _ _ _ _ _ _ us hl => match us, hl with | [_, _], _ => rfl
  have m20 := PySem.W.mg_of X G a20
  have F21 := fun_mk (st := sLTimes) l21 c21 k21
  have b21 := F21.binds (ps := ["_law_a", "_law_b"]) fun _ _ _ _ _ _ us hl => match us, hl with | [_, _], _ => rfl
  have m21 := PySem.W.mg_of X G a21
  have F22 := fun_mk (st := sLLess) l22 c22 k22
  have b22 := F22.binds (ps := ["_law_a", "_law_b"]) fun _ _ _ _ _ _ us hl => match us, hl with | [_, _], _ => rfl
  have m22 := PySem.W.mg_of X G a22
  have F23 := fun_mk (st := sLWorth) l23 c23 k23
  have b23 := F23.binds (ps := ["_law_one", "_law_point"]) fun _ _ _ _ _ _ us hl => match us, hl with | [_, _], _ => rfl
  have m23 := PySem.W.mg_of X G a23
  have F24 := fun_mk (st := sLKeeps) l24 c24 k24
  have b24 := F24.binds (ps := ["_law_row", "_law_point"]) fun _ _ _ _ _ _ us hl => match us, hl with | [_, _], _ => rfl
  have m24 := PySem.W.mg_of X G a24
  have F25 := fun_mk (st := sAdd) l25 c25 k25
  have b25 := F25.binds (ps := ["_law_one", "_law_other", "_law_number_here"]) fun _ _ _ _ _ _ us hl => match us, hl with | [_, _, _], _ => rfl
  have m25 := PySem.W.mg_of X G a25
  have F26 := fun_mk (st := sSname) l26 c26 k26
  have b26 := F26.binds (ps := ["_law_state"]) fun _ _ _ _ _ _ us hl => match us, hl with | [_], _ => rfl
  have m26 := PySem.W.mg_of X G a26
  have F27 := fun_mk (st := sNames) l27 c27 k27
  have b27 := F27.binds (ps := ["_law_state", "_law_many"]) fun _ _ _ _ _ _ us hl => match us, hl with | [_, _], _ => rfl
  have m27 := PySem.W.mg_of X G a27
  have F28 := fun_mk (st := sNumber) l28 c28 k28
  have b28 := F28.binds (ps := ["_law_state"]) fun _ _ _ _ _ _ us hl => match us, hl with | [_], _ => rfl
  have m28 := PySem.W.mg_of X G a28
  have F29 := fun_mk (st := sSsum) l29 c29 k29
  have b29 := F29.binds (ps := ["_law_state", "_law_unknowns"]) fun _ _ _ _ _ _ us hl => match us, hl with | [_, _], _ => rfl
  have m29 := PySem.W.mg_of X G a29
  have F30 := fun_mk (st := sShort) l30 c30 k30
  have b30 := F30.binds (ps := ["_law_number_here"]) fun _ _ _ _ _ _ us hl => match us, hl with | [_], _ => rfl
  have m30 := PySem.W.mg_of X G a30
  have F31 := fun_mk (st := sFar) l31 c31 k31
  have b31 := F31.binds (ps := ["_law_state"]) fun _ _ _ _ _ _ us hl => match us, hl with | [_], _ => rfl
  have m31 := PySem.W.mg_of X G a31
  have F32 := fun_mk (st := sAnyRow) l32 c32 k32
  have b32 := F32.binds (ps := ["_law_state", "_law_unknowns"]) fun _ _ _ _ _ _ us hl => match us, hl with | [_, _], _ => rfl
  have m32 := PySem.W.mg_of X G a32
  have F33 := fun_mk (st := sLPlain) l33 c33 k33
  have b33 := F33.binds (ps := ["_law_row"]) fun _ _ _ _ _ _ us hl => match us, hl with | [_], _ => rfl
  have m33 := PySem.W.mg_of X G a33
  have F34 := fun_mk (st := sOther) l34 c34 k34
  have b34 := F34.binds (ps := ["_law_state", "_law_row", "_law_unknowns"]) fun _ _ _ _ _ _ us hl => match us, hl with | [_, _, _], _ => rfl
  have m34 := PySem.W.mg_of X G a34
  have F35 := fun_mk (st := sBounded) l35 c35 k35
  have b35 := F35.binds (ps := ["_law_row"]) fun _ _ _ _ _ _ us hl => match us, hl with | [_], _ => rfl
  have m35 := PySem.W.mg_of X G a35
  have F36 := fun_mk (st := sLaw) l36 c36 k36
  have n_abs := PySem.W.mg_none_of X G z_abs
  have n_bool := PySem.W.mg_none_of X G z_bool
  have n_dict := PySem.W.mg_none_of X G z_dict
  have n_enumerate := PySem.W.mg_none_of X G z_enumerate
  have n_int := PySem.W.mg_none_of X G z_int
  have n_isinstance := PySem.W.mg_none_of X G z_isinstance
  have n_len := PySem.W.mg_none_of X G z_len
  have n_list := PySem.W.mg_none_of X G z_list
  have n_min := PySem.W.mg_none_of X G z_min
  have n_range := PySem.W.mg_none_of X G z_range
  have mg_C := PySem.W.mg_of X G g_C
  have T_C : ExT K mg "NoFraction" C := ⟨mg_C, x_C, k_C, b_C, t_C⟩
  have mg_CN := PySem.W.mg_of X G g_CN
  have T_CN : ExT K mg "NoNumber" CN := ⟨mg_CN, x_CN, k_CN, b_CN, t_CN⟩
  refine ⟨PySem.W.fnOf "law" "law" (defArgs sLaw) (defBody sLaw) (defScope sLaw) .none kV36 dc36 pm36 an36 cd36 ct36, fun s v => .of_eq rfl, fun base _ _ => ?_⟩
  have hN : ∀ H, FrT K H aN 0 1 := fun H => ⟨.inr ⟨_, _, _, lN, rfl, rfl, (by show 2 ≤ sizeLine; decide), .cons ⟨_, rfl⟩ (.cons ⟨_, rfl⟩ .nil)⟩, .kTuple lN rfl⟩
  have gN := PySem.W.mg_of X G aNn
  have hO : ∀ H, FrT K H aO 1 1 := fun H => ⟨.inr ⟨_, _, _, lO, rfl, rfl, (by show 2 ≤ sizeLine; decide), .cons ⟨_, rfl⟩ (.cons ⟨_, rfl⟩ .nil)⟩, .kTuple lO rfl⟩
  have gO := PySem.W.mg_of X G aOn
  have hM : ∀ H, FrT K H aM (-1) 1 := fun H => ⟨.inr ⟨_, _, _, lM, rfl, rfl, (by show 2 ≤ sizeLine; decide), .cons ⟨_, rfl⟩ (.cons ⟨_, rfl⟩ .nil)⟩, .kTuple lM rfl⟩
  have gM := PySem.W.mg_of X G aMn
  have gSb := PySem.W.mg_of X G aSb
  have gT := PySem.W.mg_of X G aTn
  have hT : Turned K w aT := turned_mk lT d_kT hT0 hT1 hT2 hT3 hT4
  have cd := Cl.mk0 (P := l.prog) (w := w) (base := base) (ok_cd (k := 0) F0 n_abs) m0 k0 b0
  cases vd1
  have fo := Cl.mk0 (P := l.prog) (w := w) (base := base) (ok_fo F1 T_C cd) m1 k1 b1
  have ar := Cl.mk0 (P := l.prog) (w := w) (base := base) (ok_are (k := 0) F2 gSb) m2 k2 b2
  have pl := Cl.mk0 (P := l.prog) (w := w) (base := base) (ok_plus F3 fo cd ar) m3 k3 b3
  have tm := Cl.mk0 (P := l.prog) (w := w) (base := base) (ok_times F4 fo cd ar) m4 k4 b4
  have le := Cl.mk0 (P := l.prog) (w := w) (base := base) (ok_less (k := 0) F5 ) m5 k5 b5
  have wn := Cl.mk0 (P := l.prog) (w := w) (base := base) (ok_wn (k := 0) F6 gN hN) m6 k6 b6
  have sti := Cl.mk0 (P := l.prog) (w := w) (base := base) (ok_sumtimes F7 tm wn) m7 k7 b7
  have wo := Cl.mk0 (P := l.prog) (w := w) (base := base) (ok_worth F8 gN hN pl tm) m8 k8 b8
  have ke := Cl.mk0 (P := l.prog) (w := w) (base := base) (ok_keeps F9 wo le) m9 k9 b9
  have rt := Cl.mk0 (P := l.prog) (w := w) (base := base) (ok_rowtimes F10 T_CN gN hN gT hT sti tm) m10 k10 b10
  have wm := Cl.mk0 (P := l.prog) (w := w) (base := base) (ok_maker F11 cd fo) m11 k11 b11
  have pr := Cl.mk0 (P := l.prog) (w := w) (base := base) (ok_plain2 F12 n_min gN hN gO hO gM hM ke wm rt tm) m12 k12 b12
  have sr := Cl.mk0 (P := l.prog) (w := w) (base := base) (ok_same F13 pr) m13 k13 b13
  have fs := Cl.mk0 (P := l.prog) (w := w) (base := base) (ok_fresh (k := 0) F14 ) m14 k14 b14
  have mx := Cl.mk0 (P := l.prog) (w := w) (base := base) (ok_mixed (k := 0) F15 n_enumerate) m15 k15 b15
  have fl := Cl.mk0 (P := l.prog) (w := w) (base := base) (ok_fill F16 n_len mx) m16 k16 b16
  have tk := Cl.mk0 (P := l.prog) (w := w) (base := base) (ok_take F17 fl) m17 k17 b17
  have sh := Cl.mk0 (P := l.prog) (w := w) (base := base) (ok_sh (k := 0) F18 n_abs) m18 k18 b18
  have fc := Cl.mk0 (P := l.prog) (w := w) (base := base) (ok_frac F19 sh) m19 k19 b19
  have lpl := Cl.mk0 (P := l.prog) (w := w) (base := base) (ok_lplus F20 fc) m20 k20 b20
  have ltm := Cl.mk0 (P := l.prog) (w := w) (base := base) (ok_ltimes F21 fc) m21 k21 b21
  have ll := Cl.mk0 (P := l.prog) (w := w) (base := base) (ok_lless (k := 0) F22 ) m22 k22 b22
  have lw := Cl.mk0 (P := l.prog) (w := w) (base := base) (ok_lworth F23 lpl ltm) m23 k23 b23
  have lk := Cl.mk0 (P := l.prog) (w := w) (base := base) (ok_lkeeps F24 lw ll) m24 k24 b24
  have ad := Cl.mk0 (P := l.prog) (w := w) (base := base) (ok_add F25 n_dict lpl ltm) m25 k25 b25
  have sn := Cl.mk0 (P := l.prog) (w := w) (base := base) (ok_sname F26 n_range tk) m26 k26 b26
  have nn := Cl.mk0 (P := l.prog) (w := w) (base := base) (ok_names F27 n_range sn) m27 k27 b27
  have nm := Cl.mk0 (P := l.prog) (w := w) (base := base) (ok_number F28 tk fc) m28 k28 b28
  have ss := Cl.mk0 (P := l.prog) (w := w) (base := base) (ok_ssum F29 n_len tk nm) m29 k29 b29
  have sho := Cl.mk0 (P := l.prog) (w := w) (base := base) (ok_short2 (k := 0) F30 n_abs) m30 k30 b30
  have far := Cl.mk0 (P := l.prog) (w := w) (base := base) (ok_far F31 tk fc) m31 k31 b31
  have anr := Cl.mk0 (P := l.prog) (w := w) (base := base) (ok_anyrow F32 n_dict n_list ss tk nm) m32 k32 b32
  have lp := Cl.mk0 (P := l.prog) (w := w) (base := base) (ok_lplain2 F33 n_min n_int lk sh ad fc ltm) m33 k33 b33
  have ot := Cl.mk0 (P := l.prog) (w := w) (base := base) (ok_other F34 n_dict n_len tk fc ad ltm lpl anr) m34 k34 b34
  have bn := Cl.mk0 (P := l.prog) (w := w) (base := base) (ok_bnd F35 n_dict ad sho) m35 k35 b35
  exact ok_law F36 n_range n_dict n_isinstance n_bool fs nn tk anr bn ot far rt lp sr
end SS
open PySem PySem.W PyProof.Rows
set_option maxRecDepth 100000 in
set_option maxHeartbeats 0 in
theorem PySem.Challenge.cw_scopestore_k80_same_rows_holds : PySem.Challenge.rw_scopestore_k80_same_rows.Holds := by
  w_on; o_law; k_head; (case hw => w_witness2)
  k_fill
  refine L2.walk_of (l := PySem.Challenge.rw_scopestore_k80_same_rows) (n := 63) (k := 9) (x := "_law_script") (CX := fun _ => L2.CX0) (sp := fun w => SS.spLaw _) rfl (by decide) rfl ⟨rfl, by decide, by decide⟩ (fun w h Y => PySem.W.kIn_of Y) ?F (fun _ _ a ns hl _ hS => ⟨a, ns, rfl, hS, fun _ => rfl⟩) (fun _ _ _ _ _ h => h)
  case F =>
    intro w mg fa h KX G hmg
    refine' SS.all_mk KX G hmg ?a0 ?l0 ?c0 ?k0 ?a1 ?l1 ?t1 ?c1 ?k1 ?a2 ?l2 ?c2 ?k2 ?a3 ?l3 ?c3 ?k3 ?a4 ?l4 ?c4 ?k4 ?a5 ?l5 ?c5 ?k5 ?a6 ?l6 ?c6 ?k6 ?a7 ?l7 ?c7 ?k7 ?a8 ?l8 ?c8 ?k8 ?a9 ?l9 ?c9 ?k9 ?a10 ?l10 ?c10 ?k10 ?a11 ?l11 ?c11 ?k11 ?a12 ?l12 ?c12 ?k12 ?a13 ?l13 ?c13 ?k13 ?a14 ?l14 ?c14 ?k14 ?a15 ?l15 ?c15 ?k15 ?a16 ?l16 ?c16 ?k16 ?a17 ?l17 ?c17 ?k17 ?a18 ?l18 ?c18 ?k18 ?a19 ?l19 ?c19 ?k19 ?a20 ?l20 ?c20 ?k20 ?a21 ?l21 ?c21 ?k21 ?a22 ?l22 ?c22 ?k22 ?a23 ?l23 ?c23 ?k23 ?a24 ?l24 ?c24 ?k24 ?a25 ?l25 ?c25 ?k25 ?a26 ?l26 ?c26 ?k26 ?a27 ?l27 ?c27 ?k27 ?a28 ?l28 ?c28 ?k28 ?a29 ?l29 ?c29 ?k29 ?a30 ?l30 ?c30 ?k30 ?a31 ?l31 ?c31 ?k31 ?a32 ?l32 ?c32 ?k32 ?a33 ?l33 ?c33 ?k33 ?a34 ?l34 ?c34 ?k34 ?a35 ?l35 ?c35 ?k35 ?a36 ?l36 ?c36 ?k36 ?z_abs ?z_bool ?z_dict ?z_enumerate ?z_int ?z_isinstance ?z_len ?z_list ?z_min ?z_range ?g_C ?x_C ?k_C ?b_C ?t_C ?g_CN ?x_CN ?k_CN ?b_CN ?t_CN ?aNn ?lN ?aOn ?lO ?aMn ?lM ?aSb ?aTn ?lT ?d_kT ?hT0 ?hT1 ?hT2 ?hT3 ?hT4
    (case a0 => k_is)
    (case l0 => k_is)
    (case c0 => k_is)
    (case k0 => k_is)
    (case a1 => k_is)
    (case l1 => k_is)
    (case t1 => k_is)
    (case c1 => k_is)
    (case k1 => k_is)
    (case a2 => k_is)
    (case l2 => k_is)
    (case c2 => k_is)
    (case k2 => k_is)
    (case a3 => k_is)
    (case l3 => k_is)
    (case c3 => k_is)
    (case k3 => k_is)
    (case a4 => k_is)
    (case l4 => k_is)
    (case c4 => k_is)
    (case k4 => k_is)
    (case a5 => k_is)
    (case l5 => k_is)
    (case c5 => k_is)
    (case k5 => k_is)
    (case a6 => k_is)
    (case l6 => k_is)
    (case c6 => k_is)
    (case k6 => k_is)
    (case a7 => k_is)
    (case l7 => k_is)
    (case c7 => k_is)
    (case k7 => k_is)
    (case a8 => k_is)
    (case l8 => k_is)
    (case c8 => k_is)
    (case k8 => k_is)
    (case a9 => k_is)
    (case l9 => k_is)
    (case c9 => k_is)
    (case k9 => k_is)
    (case a10 => k_is)
    (case l10 => k_is)
    (case c10 => k_is)
    (case k10 => k_is)
    (case a11 => k_is)
    (case l11 => k_is)
    (case c11 => k_is)
    (case k11 => k_is)
    (case a12 => k_is)
    (case l12 => k_is)
    (case c12 => k_is)
    (case k12 => k_is)
    (case a13 => k_is)
    (case l13 => k_is)
    (case c13 => k_is)
    (case k13 => k_is)
    (case a14 => k_is)
    (case l14 => k_is)
    (case c14 => k_is)
    (case k14 => k_is)
    (case a15 => k_is)
    (case l15 => k_is)
    (case c15 => k_is)
    (case k15 => k_is)
    (case a16 => k_is)
    (case l16 => k_is)
    (case c16 => k_is)
    (case k16 => k_is)
    (case a17 => k_is)
    (case l17 => k_is)
    (case c17 => k_is)
    (case k17 => k_is)
    (case a18 => k_is)
    (case l18 => k_is)
    (case c18 => k_is)
    (case k18 => k_is)
    (case a19 => k_is)
    (case l19 => k_is)
    (case c19 => k_is)
    (case k19 => k_is)
    (case a20 => k_is)
    (case l20 => k_is)
    (case c20 => k_is)
    (case k20 => k_is)
    (case a21 => k_is)
    (case l21 => k_is)
    (case c21 => k_is)
    (case k21 => k_is)
    (case a22 => k_is)
    (case l22 => k_is)
    (case c22 => k_is)
    (case k22 => k_is)
    (case a23 => k_is)
    (case l23 => k_is)
    (case c23 => k_is)
    (case k23 => k_is)
    (case a24 => k_is)
    (case l24 => k_is)
    (case c24 => k_is)
    (case k24 => k_is)
    (case a25 => k_is)
    (case l25 => k_is)
    (case c25 => k_is)
    (case k25 => k_is)
    (case a26 => k_is)
    (case l26 => k_is)
    (case c26 => k_is)
    (case k26 => k_is)
    (case a27 => k_is)
    (case l27 => k_is)
    (case c27 => k_is)
    (case k27 => k_is)
    (case a28 => k_is)
    (case l28 => k_is)
    (case c28 => k_is)
    (case k28 => k_is)
    (case a29 => k_is)
    (case l29 => k_is)
    (case c29 => k_is)
    (case k29 => k_is)
    (case a30 => k_is)
    (case l30 => k_is)
    (case c30 => k_is)
    (case k30 => k_is)
    (case a31 => k_is)
    (case l31 => k_is)
    (case c31 => k_is)
    (case k31 => k_is)
    (case a32 => k_is)
    (case l32 => k_is)
    (case c32 => k_is)
    (case k32 => k_is)
    (case a33 => k_is)
    (case l33 => k_is)
    (case c33 => k_is)
    (case k33 => k_is)
    (case a34 => k_is)
    (case l34 => k_is)
    (case c34 => k_is)
    (case k34 => k_is)
    (case a35 => k_is)
    (case l35 => k_is)
    (case c35 => k_is)
    (case k35 => k_is)
    (case a36 => k_is)
    (case l36 => k_is)
    (case c36 => k_is)
    (case k36 => k_is)
    (case z_abs => k_is)
    (case z_bool => k_is)
    (case z_dict => k_is)
    (case z_enumerate => k_is)
    (case z_int => k_is)
    (case z_isinstance => k_is)
    (case z_len => k_is)
    (case z_list => k_is)
    (case z_min => k_is)
    (case z_range => k_is)
    (case g_C => k_is)
    (case x_C => first | k_is | k_exc | rfl | decide +kernel)
    (case k_C => k_is)
    (case b_C => k_is)
    (case t_C => k_is)
    (case g_CN => k_is)
    (case x_CN => first | k_is | k_exc | rfl | decide +kernel)
    (case k_CN => k_is)
    (case b_CN => k_is)
    (case t_CN => k_is)
    (case aNn => k_is)
    (case lN => k_is)
    (case aOn => k_is)
    (case lO => k_is)
    (case aMn => k_is)
    (case lM => k_is)
    (case aSb => k_is)
    (case aTn => k_is)
    (case lT => k_is)
    (case d_kT => first | k_is | exact ⟨⟨_, _, rfl, rfl⟩, ⟨_, _, rfl, rfl⟩, ⟨_, _, rfl, rfl⟩, ⟨_, _, rfl, rfl⟩, ⟨_, _, rfl, rfl⟩, trivial⟩ | simp [PySem.W.KeysLit])
    (case hT0 => k_is)
    (case hT1 => k_is)
    (case hT2 => k_is)
    (case hT3 => k_is)
    (case hT4 => k_is)

import PyProof.Rows.All
import Wide.All
import OpenK.AllK
import Wide.FinOn
import KE.GoesEnum
import HandS.ForMost
import HandS.ForExc
import HandS.Wide
import HandS.IsInst
import HandS.ExcIs
import HandS.Defaults
import HandS.IsInst
import HandS.ExcIs
import HandS.Defaults
import HandS.DeepEq
import HandS.DictComp
import KE.KEqDict
import KE.KEqNest
import HandS.AnyAll
import HandS.Nested
import HandS.GenOver
import HandS.EndTab
import HandS.HotCalls
import HandS.SetFor
import HandS.Finally
import HandS.Walk
import HandS.Conv
import HandS.ListItems
import PyProof.NeKinds
import HandS.Style
import HandS.More
import HandS.Text
import HandS.StrMore
import HandS.FStr
import HandS.NoneIn
import HandS.Small
import HandS.Strs
import KE.KUnpackStar
import HandS.StrSplit
import PyProof.Rows.StrSplitMax
import PyProof.StrLawsOccR
import PyProof.Rows.StrMeet
import PyProof.Rows.StrRules
import PyProof.MinMaxWalk
import PyProof.FString5
import PySem.Challenge.RW_scopestore_k86_sum_and_row_texts
set_option Elab.async false
set_option linter.all false
set_option maxRecDepth 100000
set_option exponentiation.threshold 10000
namespace SS
open PySem PySem.Spec PyProof.Rows L2
section
/-! ### enumerate over a tuple: one new pair a turn -/
def ItE (K : PySem.W.Frag) (a : Addr) : It where
  go := fun i H => ∃ (ys : List V) (y : V), SqT K H a ys ∧ ys[i]? = some y
  yld := fun i H v H' => ∃ T y, v = .ref T ∧ H T = none ∧ H' = upd H T (.tup [.int (i : Nat), y]) ∧ ∀ ys, SqT K H a ys → ys[i]? = some y
  stop := fun i H => ∃ ys : List V, SqT K H a ys ∧ ys.length = i
theorem turnE {P : Program} {w : World} {K : PySem.W.Frag} {es : List Expr} {kk : Nat} {tp : Pos} (a e q : Addr) :
    Turn P w K (.Tuple es kk tp) (ItE K a) [e, q] e (fun i h => (∃ old, IsEnum h e q ((i : Nat) : Int) old) ∧ h.IsTupleIter q a i ∧ e ≠ q ∧ a ≠ q ∧ e ≠ a) where
  mem := by simp
  obj := fun i h st b hb => by
    obtain ⟨⟨old, h1⟩, ⟨o, h2, _, h3⟩, _⟩ := st
    rcases (show b = e ∨ b = q by simpa using hb) with z | z
    · subst z
      exact ⟨_, h1, fun v w => nomatch w⟩
    · subst z
      exact ⟨o, h2, fun v w => by rw [h3] at w; cases w⟩
  keep := fun i h h' st k => by
    obtain ⟨⟨old, h1⟩, h2, h3⟩ := st
    exact ⟨⟨old, k e (by simp) _ h1⟩, h2.at (fun o z => k q (by simp) o z), h3⟩
  item := by
    intro X e1 e2 e3 calm i pins s σ H E I free st go
    subst e1 e2 e3
    obtain ⟨⟨old, h1⟩, h2, n1, n2, n3⟩ := st
    obtain ⟨ys, y, sq, gy⟩ := go
    obtain ⟨us, rl, at_, _⟩ := I.tuple sq
    obtain ⟨u, gu, ru⟩ := rl.get gy
    have lt : i < us.toArray.size := by
      have z := (List.getElem?_eq_some_iff.mp gu).1
      simpa using z
    have le : e < s.heap.objs.size := Heap.lt_size h1
    have lq : q < s.heap.objs.size := by
      obtain ⟨_, z, _⟩ := h2
      exact Heap.lt_size z
    refine wpAny_pyNext_enum_itemD (Draws.tuple (A := X.A.in1) (I.ok.hd calm) q a n2 us.toArray) h1
      ⟨h2, at_⟩ lt n1 (by simp [n1, n3]) fun u' h' tk pu ho st' hT hsz hk => ?_
    have eu : u' = u := by
      have z : us[i]? = some u' := by simpa using pu
      rw [gu] at z
      exact (Option.some.inj z).symm
    subst eu
    refine ⟨_, rfl, wpAny_letOwnedTupleGo_enum
      (s := { s with heap := h', toks := tk + 1 }) ho fun h2' he' sb => ?_⟩
    have T2 : h2'.get? s.heap.objs.size = some { cls := .type "tuple", data := .seq #[.int i tk, u'] } :=
      (sb.2 _ (Nat.ne_of_gt le)).trans hT
    have nw : ObjOk X.prog X.w (upd H s.heap.objs.size (.tup [.int (i : Nat), y])) h2' s.heap.objs.size (.tup [.int (i : Nat), y]) :=
      ⟨(by show 2 ≤ sizeLine; decide), [.int i tk, u'], .cons ⟨_, rfl⟩ (.cons ru .nil), ⟨_, T2, rfl, _, rfl⟩⟩
    have J : Inv X pins σ (upd H s.heap.objs.size (.tup [.int (i : Nat), y])) { s with heap := h2', toks := tk + 1 } :=
      I.turnedNew (ch := [e, q]) (fun b ob nb z => (sb.2 b (fun c => nb (by simp [c]))).trans (hk b ob (fun c => nb (by simp [c])) (fun c => nb (by simp [c])) z)) free (Nat.le_refl _) nw
    refine ⟨.ref s.heap.objs.size, _, J, rfl, ⟨_, y, rfl, I.hok.fresh (Nat.le_refl _), rfl, fun zs hz => by rw [I.tuple_inj hz sq]; exact gy⟩,
      ⟨⟨u', ?_⟩, st'.1.at (fun o z => (sb.2 q (Ne.symm n1)).trans z), n1, n2, n3⟩, fun b hb => ?_⟩
    · rw [show ((i + 1 : Nat) : Int) = (i : Int) + 1 by omega]
      exact he'
    · have lb : b < s.heap.objs.size := by
        rcases (show b = e ∨ b = q by simpa using hb) with z | z
        · rw [z]; exact le
        · rw [z]; exact lq
      rw [upd_ne (Nat.ne_of_lt lb)]
      exact (free b hb).1
  done := by
    intro X e1 e2 e3 calm i pins s σ H E I free st stp
    subst e1 e2 e3
    obtain ⟨⟨old, h1⟩, h2, n1, n2, n3⟩ := st
    obtain ⟨ys, sq, ly⟩ := stp
    obtain ⟨us, rl, at_, _⟩ := I.tuple sq
    obtain ⟨f0, f1, f2, f3, f4, f5⟩ := free q (by simp)
    have ll := rl.length
    have ei : us.toArray.size = i := by
      rw [List.size_toArray, ← ll]
      exact ly
    refine wpAny_pyNext_enum_endD (Draws.tuple (A := X.A.in1) (I.ok.hd calm) q a n2 us.toArray) h1 ⟨by rw [ei]; exact h2, at_⟩ fun h' ext => ?_
    exact ⟨rfl, I.turned (t' := s.toks) (fun b o hb z => ext b o hb z) f0 f1 f3 f4 f5⟩
  self := fun A i s Q E st h => by
    obtain ⟨⟨_, h1⟩, _⟩ := st
    exact wpAny_pyIter_enum h1 h

set_option maxHeartbeats 1000000 in
theorem meets_enumT (t : Addr) (items : Array Value) (n : Nat) (dct : Option Addr) (sl : Array (Option Value)) :
    Meets (Builtin.«enumerate.__new__» ⟨[.type "enumerate", .ref t], []⟩) (fun _ R s => s.heap.get? t = some { cls := .type "tuple", dict := dct, data := .seq items n, slots := sl } ∧
      R (.ok (.ret (.ref (s.heap.push { cls := .type "tuple_iterator", data := .fields #[.ref t, .int 0 0] }).objs.size)))
        { s with heap := (s.heap.push { cls := .type "tuple_iterator", data := .fields #[.ref t, .int 0 0] }).push { cls := .type "enumerate", data := .fields #[.none, .bool false, .ref s.heap.objs.size, rawInt 0, .none, .none] } }) :=
  .of_wp fun prog w A R s h => by
    obtain ⟨hp, g, d, tk, os⟩ := s
    obtain ⟨hl, h⟩ := h
    have hsub := sub_enumerate
    have hT : Heap.IsTuple (Shared.heap ⟨hp, g, d, tk, os⟩) t items := ⟨_, hl, rfl, n, rfl⟩
    wp_walk using AutoSeq1.wpAny_loadPart' hl
    refine wpAny_stack_any fun st => wpAny_pure ?_
    split
    · rename_i c _ _ _ _ _
      cases (c == Value.type "enumerate")
      · wp_walk using AutoSeq1.wpAny_loadPart' hl, wpAny_pyIter_tuple hT
        exact ⟨_, rfl, h⟩
      · wp_walk using AutoSeq1.wpAny_loadPart' hl, wpAny_pyIter_tuple hT
        exact ⟨_, rfl, h⟩
    · wp_walk using AutoSeq1.wpAny_loadPart' hl, wpAny_pyIter_tuple hT
      exact ⟨_, rfl, h⟩
theorem call_enumT {prog : Program} {w : World} {A : Around} {E : Value → Shared → Prop} {s : Shared} {t : Addr} {items : Array Value} {Q : Value → Shared → Prop} (hL : s.heap.IsTuple t items)
    (h : ∀ h', IsEnum h' (s.heap.objs.size + 1) s.heap.objs.size 0 .none → h'.IsTupleIter s.heap.objs.size t 0 →
      (∀ b o, s.heap.get? b = some o → h'.get? b = some o) → Q (.ref (s.heap.objs.size + 1)) { s with heap := h' }) :
    wpAny (model prog w) A (call (.type "enumerate") [.ref t]) Q E s := by
  obtain ⟨⟨c, dct, dt, sl⟩, hl, hc, n, hd⟩ := hL
  have hc' : c = .type "tuple" := hc
  have hd' : dt = .seq items n := hd
  subst hc' hd'
  refine callType_new F.called_enumerate (by decide) (F.typeCall_enumerate_1 _) (F.newCall_enumerate_1 _)
    (fun obj => F.args_object_init_2 obj _) F.entry_enumerate_new (meets_enumT t items n dct sl) ⟨hl, ?_⟩
  have z1 : (s.heap.push { cls := .type "tuple_iterator", data := .fields #[.ref t, .int 0 0] }).objs.size = s.heap.objs.size + 1 := Heap.size_push ..
  show _ ∧ _
  rw [z1]
  have en : IsEnum ((s.heap.push { cls := .type "tuple_iterator", data := .fields #[.ref t, .int 0 0] }).push
      { cls := .type "enumerate", data := .fields #[.none, .bool false, .ref s.heap.objs.size, rawInt 0, .none, .none] }) (s.heap.objs.size + 1) s.heap.objs.size 0 .none := by
    have z := Heap.get?_push_size (s.heap.push { cls := .type "tuple_iterator", data := .fields #[.ref t, .int 0 0] })
      (o := { cls := .type "enumerate", data := .fields #[.none, .bool false, .ref s.heap.objs.size, rawInt 0, .none, .none] }) rfl
    rw [z1] at z
    exact z
  exact ⟨⟨_, en, rfl⟩, h _ en ⟨_, Heap.get?_push_of_some _ (Heap.get?_push_size _ rfl), rfl, rfl⟩
    fun b o z => Heap.get?_push_of_some _ (Heap.get?_push_of_some _ z)⟩
def iEnT (K : PySem.W.Frag) (ta : TA) : TI := fun σ H R => ta σ H fun vs H1 => ∃ a ys, vs = [.ref a] ∧ SqT K H1 a ys ∧ R (ItE K a) H1
theorem pi_enT {X : Cx} {e : Expr} {ta : TA} {p pos tpos : Pos} {es : List Expr} {kk : Nat} (hg : Gl X "enumerate") (hm : X.mg "enumerate" = none) (ha : PA X [e] ta) (hs : starEach [e] X.env = [(false, eval e X.env)] := by rfl) :
    PI X (.Tuple es kk tpos) (.Call (.Name "enumerate" p) [e] [] pos) (iEnT X.K ta) := by
  refine ⟨fun pins s σ H R I h => ?_⟩
  refine Call_ (ld_blt I hg hm boot_enumerate (PyProof.Rows.callWith_type1
    (thn (ha.run pos pins s σ H _ I h) fun us s1 ⟨vs, H1, I1, r1, q1⟩ => ?_) hs rfl))
  obtain ⟨a, ys, ex, sq, q⟩ := q1
  subst ex
  cases r1 with
  | cons r rr =>
    cases rr
    cases r
    obtain ⟨us, rl, at_, _⟩ := I1.tuple sq
    have la : a < s1.heap.objs.size := by
      obtain ⟨_, z, _⟩ := at_
      exact Heap.lt_size z
    refine call_enumT (items := us.toArray) at_ fun h' he hit hk => wpAny_pyIter_enum he ?_
    have I2 : Inv X pins σ H1 { s1 with heap := h' } := I1.kept (t' := s1.toks) hk
    refine ⟨s1.heap.objs.size + 1, [s1.heap.objs.size + 1, s1.heap.objs.size], _, _, H1, rfl, I2,
      turnE a (s1.heap.objs.size + 1) s1.heap.objs.size, ⟨⟨.none, he⟩, hit, Nat.succ_ne_self _, Nat.ne_of_lt la, Nat.ne_of_gt (Nat.lt_succ_of_lt la)⟩, fun b hb => ?_, q⟩
    have lb : s1.heap.objs.size ≤ b := by
      rcases (show b = s1.heap.objs.size + 1 ∨ b = s1.heap.objs.size by simpa using hb) with z | z
      · rw [z]; exact Nat.le_add_right _ _
      · rw [z]; exact Nat.le_refl _
    exact I1.fpOk lb (I1.hok.fresh lb)
/-! ### // by a great divisor of either sign -/
def CDivG (_ j : Int) : Prop := j ≠ 0 ∧ j.natAbs.log2 < 9000
theorem op_fdivG {X : Cx} : OpR X (binaryOp .FloorDiv) (rI CDivG fun i j => .int (i.fdiv j)) :=
  opI fun i j _ _ _ _ _ hc q => floordiv_int hc.1 q (.inl (PyProof.noPylong_of_log2 hc.2))
end
end SS
namespace SS
def sgd (t b : Int) : Int := if b < 0 then -((Int.gcd t b : Nat) : Int) else ((Int.gcd t b : Nat) : Int)
def fr1 (t b : Int) : Int := t.fdiv (sgd t b)
def fr2 (t b : Int) : Int := b.fdiv (sgd t b)
theorem gcdP {t b : Int} (h : b ≠ 0) : 0 < Int.gcd t b := Nat.pos_of_ne_zero fun e => h (Int.gcd_eq_zero_iff.mp e).2
theorem sgd_abs (t b : Int) : (sgd t b).natAbs = Int.gcd t b := by
  unfold sgd
  split <;> omega
theorem sgd_ne {t b : Int} (h : b ≠ 0) : sgd t b ≠ 0 := fun e => by
  have := gcdP (t := t) h
  rw [← sgd_abs, e] at this
  exact absurd this (by decide)
theorem sgd_dvd1 (t b : Int) : sgd t b ∣ t := by
  rw [← Int.natAbs_dvd_natAbs, sgd_abs, ← Int.natCast_dvd_natCast, Int.dvd_natAbs]
  exact Int.gcd_dvd_left ..
theorem sgd_dvd2 (t b : Int) : sgd t b ∣ b := by
  rw [← Int.natAbs_dvd_natAbs, sgd_abs, ← Int.natCast_dvd_natCast, Int.dvd_natAbs]
  exact Int.gcd_dvd_right ..
theorem fr1_eq {t b : Int} (h : b ≠ 0) : fr1 t b * sgd t b = t := by
  obtain ⟨k, e⟩ := sgd_dvd1 t b
  have z : fr1 t b = k := by
    unfold fr1
    have q : t.fdiv (sgd t b) = (sgd t b * k).fdiv (sgd t b) := congrArg (·.fdiv (sgd t b)) e
    rw [q]
    exact Int.mul_fdiv_cancel_left _ (sgd_ne h)
  rw [z, Int.mul_comm]
  exact e.symm
theorem fr2_eq {t b : Int} (h : b ≠ 0) : fr2 t b * sgd t b = b := by
  obtain ⟨k, e⟩ := sgd_dvd2 t b
  have z : fr2 t b = k := by
    unfold fr2
    have q : b.fdiv (sgd t b) = (sgd t b * k).fdiv (sgd t b) := congrArg (·.fdiv (sgd t b)) e
    rw [q]
    exact Int.mul_fdiv_cancel_left _ (sgd_ne h)
  rw [z, Int.mul_comm]
  exact e.symm
theorem fr2_pos {t b : Int} (h : b ≠ 0) : 0 < fr2 t b := by
  have e := fr2_eq (t := t) h
  have g := gcdP (t := t) h
  unfold sgd at e
  by_cases c : b < 0
  · rw [if_pos c] at e
    refine Int.lt_of_not_ge fun z => ?_
    have : 0 ≤ fr2 t b * -((Int.gcd t b : Nat) : Int) := Int.mul_nonneg_of_nonpos_of_nonpos z (by omega)
    omega
  · rw [if_neg c] at e
    refine Int.lt_of_not_ge fun z => ?_
    have : fr2 t b * ((Int.gcd t b : Nat) : Int) ≤ 0 := Int.mul_nonpos_of_nonpos_of_nonneg z (by omega)
    omega
theorem fr_gcd {t b : Int} (h : b ≠ 0) : Int.gcd (fr1 t b) (fr2 t b) = 1 := by
  have g := gcdP (t := t) h
  have e : Int.gcd (fr1 t b * sgd t b) (fr2 t b * sgd t b) = Int.gcd t b := by rw [fr1_eq h, fr2_eq h]
  rw [Int.gcd_mul_right, sgd_abs] at e
  exact Nat.eq_of_mul_eq_mul_right g (by rw [e, Nat.one_mul])
theorem fr_cross {t b : Int} (h : b ≠ 0) : fr1 t b * b = t * fr2 t b := by
  have e1 := fr1_eq (t := t) h
  have e2 := fr2_eq (t := t) h
  calc fr1 t b * b = fr1 t b * (fr2 t b * sgd t b) := by rw [e2]
    _ = (fr1 t b * sgd t b) * fr2 t b := by rw [Int.mul_comm (fr2 t b), Int.mul_assoc]
    _ = t * fr2 t b := by rw [e1]
theorem fr1_le {t b : Int} (h : b ≠ 0) : (fr1 t b).natAbs ≤ t.natAbs := by
  have e := congrArg Int.natAbs (fr1_eq (t := t) h)
  rw [Int.natAbs_mul, sgd_abs] at e
  rw [← e]
  exact Nat.le_mul_of_pos_right _ (gcdP h)
theorem fr2_le {t b : Int} (h : b ≠ 0) : (fr2 t b).natAbs ≤ b.natAbs := by
  have e := congrArg Int.natAbs (fr2_eq (t := t) h)
  rw [Int.natAbs_mul, sgd_abs] at e
  rw [← e]
  exact Nat.le_mul_of_pos_right _ (gcdP h)
/-- one turn of the walk down -/
theorem gcd_turn {a b : Int} (ha : 0 ≤ a) (hb : 0 < b) : Int.gcd b (a % b) = Int.gcd a b := by
  obtain ⟨m, rfl⟩ := Int.eq_ofNat_of_zero_le ha
  obtain ⟨n, rfl⟩ := Int.eq_ofNat_of_zero_le (Int.le_of_lt hb)
  rw [← Int.natCast_emod]
  show Nat.gcd n (m % n) = Nat.gcd m n
  rw [Nat.gcd_comm n, ← Nat.gcd_rec, Nat.gcd_comm]
theorem gcd_end (a : Int) (h : 0 ≤ a) : ((Int.gcd a 0 : Nat) : Int) = a := by
  rw [Int.gcd_zero_right]
  omega
theorem gcd_abs (a b : Int) : Int.gcd (if a < 0 then -a else a) (if b < 0 then -b else b) = Int.gcd a b := by
  have n : ∀ x : Int, (if x < 0 then -x else x).natAbs = x.natAbs := fun x => by split <;> omega
  unfold Int.gcd
  rw [n, n]
end SS
namespace SS
theorem dvdCop {a b c : Int} (z : a ∣ b * c) (h : Int.gcd a b = 1) : a ∣ c := by
  rw [← Int.natAbs_dvd_natAbs] at z ⊢
  rw [Int.natAbs_mul] at z
  exact Nat.Coprime.dvd_of_dvd_mul_left h z
/-- in lowest terms there is one pair -/
theorem lowUniq {x y x' y' : Int} (hy : 0 < y) (hy' : 0 < y') (g : Int.gcd x y = 1) (g' : Int.gcd x' y' = 1) (e : x * y' = x' * y) : x = x' ∧ y = y' := by
  have d1 : y ∣ y' := dvdCop (b := x) ⟨x', by rw [e, Int.mul_comm]⟩ (by rw [Int.gcd_comm]; exact g)
  have d2 : y' ∣ y := dvdCop (b := x') ⟨x, by rw [← e, Int.mul_comm]⟩ (by rw [Int.gcd_comm]; exact g')
  have e2 : y = y' := Int.dvd_antisymm (Int.le_of_lt hy) (Int.le_of_lt hy') d1 d2
  refine ⟨?_, e2⟩
  rw [← e2] at e
  exact Int.eq_of_mul_eq_mul_right (Int.ne_of_gt hy) e
theorem frIs {x y t b : Int} (hb : b ≠ 0) (hy : 0 < y) (g : Int.gcd x y = 1) (e : x * b = t * y) : x = fr1 t b ∧ y = fr2 t b := by
  refine lowUniq hy (fr2_pos hb) g (fr_gcd hb) ?_
  have c := fr_cross (t := t) hb
  refine Int.eq_of_mul_eq_mul_right hb ?_
  calc x * fr2 t b * b = x * b * fr2 t b := by rw [Int.mul_assoc, Int.mul_comm (fr2 t b), ← Int.mul_assoc]
    _ = t * y * fr2 t b := by rw [e]
    _ = t * fr2 t b * y := by rw [Int.mul_assoc, Int.mul_comm y, ← Int.mul_assoc]
    _ = fr1 t b * b * y := by rw [c]
    _ = fr1 t b * y * b := by rw [Int.mul_assoc, Int.mul_comm b, ← Int.mul_assoc]
theorem gcdDvdMul {g k : Int} (h : g ≠ 0) : (g * k).fdiv g = k := Int.mul_fdiv_cancel_left _ h
theorem copDvd {a b c : Int} (h : Int.gcd a b = 1) (z : c ∣ b) : Int.gcd a c = 1 := by
  obtain ⟨k, rfl⟩ := z
  have q : Int.gcd a c ∣ Int.gcd a (c * k) := Int.gcd_dvd_gcd_mul_right_right a c k
  rw [h] at q
  exact Nat.dvd_one.mp q
theorem copDvdL {a b c : Int} (h : Int.gcd a b = 1) (z : c ∣ a) : Int.gcd c b = 1 := by
  rw [Int.gcd_comm] at h ⊢
  exact copDvd h z
theorem copMul {a b c : Int} (h1 : Int.gcd a b = 1) (h2 : Int.gcd a c = 1) : Int.gcd a (b * c) = 1 := by
  rw [Int.gcd_mul_right_right_of_gcd_eq_one h1]
  exact h2
theorem copMulL {a b c : Int} (h1 : Int.gcd a c = 1) (h2 : Int.gcd b c = 1) : Int.gcd (a * b) c = 1 := by
  rw [Int.gcd_mul_right_left_of_gcd_eq_one h1]
  exact h2
/-- both divided by their greatest divisor -/
theorem gcdParts {a b : Int} (h : b ≠ 0) : ∃ u v : Int, a = ((Int.gcd a b : Nat) : Int) * u ∧ b = ((Int.gcd a b : Nat) : Int) * v ∧ Int.gcd u v = 1 := by
  obtain ⟨u, hu⟩ := Int.gcd_dvd_left a b
  obtain ⟨v, hv⟩ := Int.gcd_dvd_right a b
  refine ⟨u, v, hu, hv, ?_⟩
  have g := gcdP (t := a) h
  have e : Int.gcd (((Int.gcd a b : Nat) : Int) * u) (((Int.gcd a b : Nat) : Int) * v) = Int.gcd a b := by rw [← hu, ← hv]
  rw [Int.gcd_mul_left] at e
  have e2 : Int.gcd a b * Int.gcd u v = Int.gcd a b * 1 := by
    rw [Nat.mul_one]
    exact e
  exact Nat.eq_of_mul_eq_mul_left g e2
theorem pos_ne' {a b : Int} (h1 : 0 < a) (h2 : 0 < b) : a * b ≠ 0 := Int.ne_of_gt (Int.mul_pos h1 h2)
theorem posMul {a b : Int} (ha : 0 < a) (h : 0 < a * b) : 0 < b := by
  refine Int.lt_of_not_ge fun z => ?_
  have : a * b ≤ 0 := Int.mul_nonpos_of_nonneg_of_nonpos (Int.le_of_lt ha) z
  omega
/-- the sum of two fractions by the divisor of their bottoms -/
def plD (d1 d2 : Int) : Int := ((Int.gcd d1 d2 : Nat) : Int)
def plT (n1 d1 n2 d2 : Int) : Int := n1 * d2.fdiv (plD d1 d2) + n2 * d1.fdiv (plD d1 d2)
def plG (n1 d1 n2 d2 : Int) : Int := ((Int.gcd (plT n1 d1 n2 d2) (plD d1 d2) : Nat) : Int)
theorem plus_long {n1 d1 n2 d2 : Int} (h1 : 0 < d1) (h2 : 0 < d2) (g1 : Int.gcd n1 d1 = 1) (g2 : Int.gcd n2 d2 = 1) :
    (plT n1 d1 n2 d2).fdiv (plG n1 d1 n2 d2) = fr1 (n1 * d2 + n2 * d1) (d1 * d2) ∧ d1.fdiv (plD d1 d2) * d2.fdiv (plG n1 d1 n2 d2) = fr2 (n1 * d2 + n2 * d1) (d1 * d2) := by
  obtain ⟨u, v, hu, hv, uv⟩ := gcdParts (a := d1) (b := d2) (Int.ne_of_gt h2)
  have s0 : 0 < plD d1 d2 := by
    have := gcdP (t := d1) (Int.ne_of_gt h2)
    unfold plD
    omega
  have hu : d1 = plD d1 d2 * u := hu
  have hv : d2 = plD d1 d2 * v := hv
  have e1 : d1.fdiv (plD d1 d2) = u := by
    have q : d1.fdiv (plD d1 d2) = (plD d1 d2 * u).fdiv (plD d1 d2) := congrArg (·.fdiv (plD d1 d2)) hu
    rw [q]
    exact gcdDvdMul (Int.ne_of_gt s0)
  have e2 : d2.fdiv (plD d1 d2) = v := by
    have q : d2.fdiv (plD d1 d2) = (plD d1 d2 * v).fdiv (plD d1 d2) := congrArg (·.fdiv (plD d1 d2)) hv
    rw [q]
    exact gcdDvdMul (Int.ne_of_gt s0)
  have eT : plT n1 d1 n2 d2 = n1 * v + n2 * u := by
    unfold plT
    rw [e1, e2]
  have eG : plG n1 d1 n2 d2 = ((Int.gcd (plT n1 d1 n2 d2) (plD d1 d2) : Nat) : Int) := rfl
  rw [e1]
  generalize plG n1 d1 n2 d2 = G at *
  generalize plT n1 d1 n2 d2 = T at *
  generalize plD d1 d2 = s at *
  have up : 0 < u := posMul s0 (by rw [← hu]; exact h1)
  have vp : 0 < v := posMul s0 (by rw [← hv]; exact h2)
  obtain ⟨t, s', ht, hs, ts⟩ := gcdParts (a := T) (b := s) (Int.ne_of_gt s0)
  rw [← eG] at ht hs
  have G0 : 0 < G := by
    have := gcdP (t := T) (Int.ne_of_gt s0)
    rw [eG]
    omega
  have sp : 0 < s' := posMul G0 (by rw [← hs]; exact s0)
  have f1 : T.fdiv G = t := by
    rw [ht]
    exact gcdDvdMul (Int.ne_of_gt G0)
  have f2 : d2.fdiv G = s' * v := by
    rw [hv, hs, Int.mul_assoc]
    exact gcdDvdMul (Int.ne_of_gt G0)
  rw [f1, f2]
  have tT : t ∣ T := ⟨G, by rw [ht, Int.mul_comm]⟩
  have c1 : Int.gcd t u = 1 := by
    refine copDvdL (a := T) ?_ tT
    rw [eT, Int.add_comm, Int.gcd_mul_right_add_left]
    refine copMulL ?_ (by rw [Int.gcd_comm]; exact uv)
    exact copDvd g1 ⟨s, by rw [hu, Int.mul_comm]⟩
  have c2 : Int.gcd t v = 1 := by
    refine copDvdL (a := T) ?_ tT
    rw [eT, Int.gcd_mul_right_add_left]
    refine copMulL ?_ uv
    exact copDvd g2 ⟨s, by rw [hv, Int.mul_comm]⟩
  refine frIs (pos_ne' h1 h2) (Int.mul_pos up (Int.mul_pos sp vp)) (copMul c1 (copMul ts c2)) ?_
  have E : n1 * d2 + n2 * d1 = s * (G * t) := by
    rw [← ht, eT, hu, hv, Int.mul_add]
    congr 1 <;> rw [Int.mul_left_comm]
  rw [E, hu, hv]
  have hs2 := hs
  generalize G = G at *
  grind
/-- the product of two fractions, one's top and the other's bottom made less -/
theorem times_long {n1 d1 n2 d2 : Int} (h1 : 0 < d1) (h2 : 0 < d2) (g1 : Int.gcd n1 d1 = 1) (g2 : Int.gcd n2 d2 = 1) :
    n1.fdiv ((Int.gcd n1 d2 : Nat) : Int) * n2.fdiv ((Int.gcd n2 d1 : Nat) : Int) = fr1 (n1 * n2) (d1 * d2) ∧ d1.fdiv ((Int.gcd n2 d1 : Nat) : Int) * d2.fdiv ((Int.gcd n1 d2 : Nat) : Int) = fr2 (n1 * n2) (d1 * d2) := by
  obtain ⟨u, v, hu, hv, uv⟩ := gcdParts (a := n1) (b := d2) (Int.ne_of_gt h2)
  obtain ⟨x, y, hx, hy, xy⟩ := gcdParts (a := n2) (b := d1) (Int.ne_of_gt h1)
  have a0 : 0 < ((Int.gcd n1 d2 : Nat) : Int) := by
    have := gcdP (t := n1) (Int.ne_of_gt h2)
    omega
  have b0 : 0 < ((Int.gcd n2 d1 : Nat) : Int) := by
    have := gcdP (t := n2) (Int.ne_of_gt h1)
    omega
  generalize ((Int.gcd n1 d2 : Nat) : Int) = a at *
  generalize ((Int.gcd n2 d1 : Nat) : Int) = b at *
  subst hu hv hx hy
  rw [gcdDvdMul (Int.ne_of_gt a0), gcdDvdMul (Int.ne_of_gt a0), gcdDvdMul (Int.ne_of_gt b0), gcdDvdMul (Int.ne_of_gt b0)]
  have vp : 0 < v := posMul a0 h2
  have yp : 0 < y := posMul b0 h1
  have uy : Int.gcd u y = 1 := copDvdL (copDvd g1 ⟨b, by rw [Int.mul_comm]⟩) ⟨a, by rw [Int.mul_comm]⟩
  have xv : Int.gcd x v = 1 := copDvdL (copDvd g2 ⟨a, by rw [Int.mul_comm]⟩) ⟨b, by rw [Int.mul_comm]⟩
  refine frIs (pos_ne' h1 h2) (Int.mul_pos yp vp) (copMul (copMulL uy xy) (copMulL uv xv)) ?_
  grind
end SS
namespace SS
open PySem PySem.Spec PyProof.Rows L2
/-! ### heaps -/
/-- all but st is as it was -/
def But (st : Addr) (H H' : Hp) : Prop := ∀ b o, b ≠ st → H b = some o → H' b = some o
theorem But.refl (st : Addr) (H : Hp) : But st H H := fun _ _ _ h => h
theorem But.trans {st : Addr} {H H1 H2 : Hp} (x : But st H H1) (y : But st H1 H2) : But st H H2 := fun b o n h => y b o n (x b o n h)
theorem Same.but {st : Addr} {H H' : Hp} (x : Same H H') : But st H H' := fun b o _ h => x b o h
theorem same_new {H : Hp} {p : Addr} {o : HO} (h : H p = none) : Same H (upd H p o) := fun b x e => by
  rw [upd_ne (ne_of_none e h)]
  exact e
theorem But.upd {st : Addr} {H : Hp} {o : HO} : But st H (upd H st o) := fun b x n e => by
  rw [upd_ne n]
  exact e
/-- the law's own state: its cells, where it stands, what is left, whether that is mixed -/
def StA (st c : Addr) (H : Hp) : Prop := ∃ (i n : Int) (f : Bool) (xs : List Int),
  H st = some (.lst [.ref c, .int i, .int n, .bl f]) ∧ H c = some (.lst (xs.map V.int)) ∧ xs.length ≤ 63 ∧ c ≠ st
theorem StA.same {st c : Addr} {H H' : Hp} (s : StA st c H) (x : Same H H') : StA st c H' := by
  obtain ⟨i, n, f, xs, h1, h2, h3, h4⟩ := s
  exact ⟨i, n, f, xs, x _ _ h1, x _ _ h2, h3, h4⟩
theorem StA.tup {st c p : Addr} {H : Hp} {xs : List V} (s : StA st c H) (h : H p = some (.tup xs)) : p ≠ st := fun e => by
  obtain ⟨i, n, f, ys, h1, _⟩ := s
  rw [e, h1] at h
  cases h
theorem StA.fresh {st c p : Addr} {H : Hp} (s : StA st c H) (h : H p = none) : p ≠ st := fun e => by
  obtain ⟨i, n, f, ys, h1, _⟩ := s
  rw [e, h1] at h
  cases h
theorem But.tup {st c p : Addr} {H H' : Hp} {xs : List V} (b : But st H H') (s : StA st c H) (h : H p = some (.tup xs)) : H' p = some (.tup xs) := b _ _ (s.tup h) h
/-- another object, made since, changes: the state stands -/
theorem StA.other {st c l : Addr} {H : Hp} {o : HO} (s : StA st c H) (h1 : l ≠ st) (h2 : l ≠ c) : StA st c (upd H l o) := by
  obtain ⟨i, n, f, xs, a1, a2, a3, a4⟩ := s
  exact ⟨i, n, f, xs, by rw [upd_ne h1.symm]; exact a1, by rw [upd_ne h2.symm]; exact a2, a3, a4⟩
theorem StA.fresh2 {st c p : Addr} {H : Hp} (s : StA st c H) (h : H p = none) : p ≠ c := fun e => by
  obtain ⟨i, n, f, ys, _, h1, _⟩ := s
  rw [e, h1] at h
  cases h
/-- a tuple (n, d) with d above 0 and few bits -/
def Fra (k : Nat) (H : Hp) (p : Addr) : Prop := ∃ n d : Int, H p = some (.tup [.int n, .int d]) ∧ 0 < d ∧ n.natAbs < 2 ^ k ∧ d.natAbs < 2 ^ k
theorem Fra.same {k : Nat} {p : Addr} {H H' : Hp} (s : Fra k H p) (x : Same H H') : Fra k H' p := by
  obtain ⟨n, d, h1, h2⟩ := s
  exact ⟨n, d, x _ _ h1, h2⟩
theorem Fra.but {k : Nat} {st c p : Addr} {H H' : Hp} (s : Fra k H p) (x : But st H H') (y : StA st c H) : Fra k H' p := by
  obtain ⟨n, d, h1, h2⟩ := s
  exact ⟨n, d, x.tup y h1, h2⟩
theorem Fra.mono {k j : Nat} {p : Addr} {H : Hp} (s : Fra k H p) (h : k ≤ j) : Fra j H p := by
  obtain ⟨n, d, h1, h2, h3, h4⟩ := s
  have z : 2 ^ k ≤ 2 ^ j := Nat.pow_le_pow_right (by decide) h
  exact ⟨n, d, h1, h2, Nat.lt_of_lt_of_le h3 z, Nat.lt_of_lt_of_le h4 z⟩
/-! ### a def of the module, as its callers know it -/
structure Cl (P : Program) (w : World) (K : PySem.W.Frag) (mg : Str → Option Value) (base : Heap) (CX : CXT) (k : Nat) (x : Str) (sp : Sp) (dvs : List V) : Prop where
  ex : ∃ (f : Addr) (fd : FuncData) (ps : List Str) (ds : List Value), FnOk P w K mg base CX k f fd ps sp ∧ mg x = some (.ref f) ∧ PySem.W.keepIn K (.ref f) = true ∧ Binds K fd ps ds ∧ Vals dvs ds
section
variable {X : Cx} {k j : Nat} {x : Str} {sp : Sp} {dvs : List V} {e : Expr} {es : List Expr} {t : TA} {p pos : Pos}
theorem pc0 (c : Cl X.prog X.w X.K X.mg X.base CX0 k x sp dvs) (hr : Room j X.A) (hk : k ≤ j) (ha : PA X (e :: es) t) (hg : Gl X x := by rfl)
    (hdb : (x == ("__debug__" : Str)) = false := by decide) (he : starEach (e :: es) X.env = (false, eval e X.env) :: starEach es X.env := by rfl) (hpl : (backTo pos (starEach es X.env)).any (·.1) = false := by rfl) :
    PE X (.Call (.Name x p) (e :: es) [] pos) (tCall sp dvs E0 t) := by
  obtain ⟨f, fd, ps, ds, F, gm, kp, b, d⟩ := c.ex
  exact pe_call F (hr.mono hk) hg gm kp b d pass0 ha hdb he hpl
theorem pcX (c : Cl X.prog X.w X.K X.mg X.base (L2.CX X.prog X.w) k x sp dvs) (hr : Room j X.A) (hk : k ≤ j) (ha : PA X (e :: es) t) (hg : Gl X x := by rfl)
    (hdb : (x == ("__debug__" : Str)) = false := by decide) (he : starEach (e :: es) X.env = (false, eval e X.env) :: starEach es X.env := by rfl) (hpl : (backTo pos (starEach es X.env)).any (·.1) = false := by rfl) :
    PE X (.Call (.Name x p) (e :: es) [] pos) (tCall sp dvs E0 t) := by
  obtain ⟨f, fd, ps, ds, F, gm, kp, b, d⟩ := c.ex
  exact pe_call F (hr.mono hk) hg gm kp b d passL ha hdb he hpl
/-- where what it raises is wished for: in a try, or let out of the def -/
theorem pcS {E : L2.St → XK} (c : Cl X.prog X.w X.K X.mg X.base (L2.CX X.prog X.w) k x sp []) (hr : Room j X.A) (hk : k ≤ j) (hx : ∀ σ, PassesAt (L2.CX X.prog X.w) X σ (E σ)) (ha : PA X (e :: es) t) (hg : Gl X x := by rfl)
    (hdb : (x == ("__debug__" : Str)) = false := by decide) (he : starEach (e :: es) X.env = (false, eval e X.env) :: starEach es X.env := by rfl) (hpl : (backTo pos (starEach es X.env)).any (·.1) = false := by rfl) :
    PE X (.Call (.Name x p) (e :: es) [] pos) (tCallS sp E t) := by
  obtain ⟨f, fd, ps, ds, F, gm, kp, b, d⟩ := c.ex
  cases d
  exact pe_callS F (hr.mono hk) hg gm kp b hx ha hdb he hpl
end
section
variable {P : Program} {w : World} {K : PySem.W.Frag} {mg : Str → Option Value} {base : Heap}
theorem Cl.mk0 {CX : CXT} {k : Nat} {x : Str} {sp : Sp} {f : Addr} {fd : FuncData} {ps : List Str} (F : FnOk P w K mg base CX k f fd ps sp) (g : mg x = some (.ref f)) (kp : PySem.W.keepIn K (.ref f) = true) (b : Binds K fd ps []) : Cl P w K mg base CX k x sp [] :=
  ⟨⟨f, fd, ps, [], F, g, kp, b, .nil⟩⟩
end
theorem small2 : 2 ≤ sizeLine := by decide
end SS
namespace SS
open PySem PySem.Spec PyProof.Rows L2
/-! ### dicts of fractions compared; tuples of such -/
/-- two tuples of the same two numbers -/
def VEq (H : Hp) (x y : V) : Prop := ∃ (a b : Addr) (n d : Int), x = .ref a ∧ y = .ref b ∧ H a = some (.tup [.int n, .int d]) ∧ H b = some (.tup [.int n, .int d])
def DEq (H : Hp) (x y : V) : Prop := ∃ (a b : Addr) (ks ls : List (Key × V)), x = .ref a ∧ y = .ref b ∧ H a = some (.dK ks) ∧ H b = some (.dK ls) ∧ ks.length = ls.length ∧ ∀ p ∈ ks, ∃ u, valV ls p.1 = some u ∧ VEq H p.2 u
section
variable {X : Cx} {pins : List (Addr × Obj)} {σ : L2.St} {H : Hp} {s : Shared}
theorem veq_run (I : Inv X pins σ H s) {A : Around} (hu : A.in1.units + 10 < cLine) {x y : V} {v u : Value} (h : VEq H x y) (rx : RelV x v) (ry : RelV y u) : SeqAt.EqAt A.in1 s v u true := by
  obtain ⟨a, b, n, d, rfl, rfl, h1, h2⟩ := h
  have D1 : Dp X.K H (.ref a) (.tuple [.int n, .int d]) := .tup (SqT.of h1) (.cons (.int _) (.cons (.int _) .nil))
  have D2 : Dp X.K H (.ref b) (.tuple [.int n, .int d]) := .tup (SqT.of h2) (.cons (.int _) (.cons (.int _) .nil))
  obtain ⟨as, r1⟩ := Dp.reads I _ _ v D1 rx
  obtain ⟨bs, r2⟩ := Dp.reads I _ _ u D2 ry
  have z := SeqAt.eqAt_reads _ _ A.in1 s v u as bs r1 r2 rfl rfl (Nat.lt_of_le_of_lt (Nat.add_le_add_left (Nat.le_trans (Nat.min_le_left _ _) (by show PyData.depth (.tuple [.int n, .int d]) ≤ 10; simp [PyData.depth, PyData.depthAll])) _) hu)
  rw [SeqAt.eqv_refl _ rfl] at z
  exact z
theorem hits_x (I : Inv X pins σ H s) {A : Around} (hu : A.in1.units + 10 < cLine) {ls : List (Key × V)} {vb : List (Key × Value)} (rb : KV ls vb) {ks : List (Key × V)} {va : List (Key × Value)}
    (ra : KV ks va) : (∀ p ∈ ks, ∃ u, valV ls p.1 = some u ∧ VEq H p.2 u) → PySem.W.KeqHits A.in1 s vb va true := by
  unfold KV at ra
  induction ra with
  | nil =>
    intro _
    exact .nil
  | @cons p q ps qs hd tl ih =>
    intro hp
    obtain ⟨e1, e2⟩ := hd
    obtain ⟨u, eu, fu⟩ := hp p List.mem_cons_self
    have ro : RelO (some u) (valueAt vb p.1) := by
      rw [← eu]
      exact rb.val p.1
    obtain ⟨y, hy, ry⟩ := ro.some_of
    obtain ⟨key, v⟩ := q
    have ek : p.1 = key := e1
    rw [ek] at hy
    exact PySem.W.KeqHits.hit (e := true) (b := true) hy (veq_run I hu fu e2 ry) (ih fun p' hm => hp p' (List.mem_cons_of_mem _ hm))
theorem KeqHits.toP {P : Program} {w : World} {A : Around} {kb : List (Key × Value)} : ∀ {ka : List (Key × Value)} {r : Bool}, PySem.W.KeqHits A s kb ka r → PySem.W.KeqHitsP P w A s kb ka r
  | _, _, .nil => .nil
  | _, _, .miss h => .miss h
  | _, _, .hit h1 h2 h3 => .hit h1 h2.eqP (KeqHits.toP h3)
/-- d != e of dicts that are alike -/
def rNeX : R2 := fun x y H Q => DEq H x y ∧ Q (.bl false) H
theorem op_neX (hu : X.A.units + 64 < cLine) : OpR X (compareOp .NotEq) rNeX := by
  intro pins s σ H x y v u Q I rx ry h
  obtain ⟨⟨a, b, ks, ls, rfl, rfl, h1, h2, hl, hp⟩, q⟩ := h
  obtain rfl : v = Value.ref a := rx
  obtain rfl : u = Value.ref b := ry
  obtain ⟨_, ya, va, ra, da⟩ := (show ObjOk X.prog X.w H s.heap a (.dK ks) from I.hok a _ h1)
  obtain ⟨_, yb, vb, rb, db⟩ := (show ObjOk X.prog X.w H s.heap b (.dK ls) from I.hok b _ h2)
  have el : va.length = vb.length := by
    rw [← ra.length, ← rb.length]
    exact hl
  refine PySem.W.keq_ne (knd := mixKind X.prog X.w) (r := true) ya yb da db (by omega) (fun _ => hits_x I (by show X.A.units + 1 + 10 < cLine; omega) rb ra hp) ?_
  exact ⟨.bl false, H, I, (by rw [el]; simp; rfl), q⟩
/-- d == {} -/
def rEq0 : R2 := fun x y H Q => ∃ (a b : Addr) (ks : List (Key × V)), x = .ref a ∧ y = .ref b ∧ H a = some (.dK ks) ∧ H b = some (.dK []) ∧ Q (.bl (ks.length == 0)) H
theorem op_eq0 (hu : X.A.units + 64 < cLine) : OpR X (compareOp .Eq) rEq0 := by
  intro pins s σ H x y v u Q I rx ry h
  obtain ⟨a, b, ks, rfl, rfl, h1, h2, q⟩ := h
  obtain rfl : v = Value.ref a := rx
  obtain rfl : u = Value.ref b := ry
  obtain ⟨_, ya, va, ra, da⟩ := (show ObjOk X.prog X.w H s.heap a (.dK ks) from I.hok a _ h1)
  obtain ⟨_, yb, vb, rb, db⟩ := (show ObjOk X.prog X.w H s.heap b (.dK []) from I.hok b _ h2)
  have e1 : va.length = ks.length := ra.length.symm
  have e2 : vb.length = 0 := rb.length.symm
  refine PySem.W.keq_eq (knd := mixKind X.prog X.w) (r := true) ya yb da db (by omega) (fun z => ?_) ?_
  · rw [e2] at z
    have ez : va = [] := List.eq_nil_of_length_eq_zero z
    rw [ez]
    exact .nil
  · exact ⟨.bl (ks.length == 0), H, I, (by rw [e1, e2, Bool.and_true]; rfl), q⟩
/-- the same of two addresses, within another thing -/
theorem deq_run (I : Inv X pins σ H s) {A : Around} (hu : A.units + 20 < cLine) {x y : V} {v u : Value} (h : DEq H x y) (rx : RelV x v) (ry : RelV y u) : SeqAt.EqP X.prog X.w A s v u true := by
  obtain ⟨a, b, ks, ls, rfl, rfl, h1, h2, hl, hp⟩ := h
  obtain rfl : v = Value.ref a := rx
  obtain rfl : u = Value.ref b := ry
  by_cases e : a = b
  · subst e
    exact (SeqAt.EqAt.same _).eqP
  · obtain ⟨_, ya, va, ra, da⟩ := (show ObjOk X.prog X.w H s.heap a (.dK ks) from I.hok a _ h1)
    obtain ⟨_, yb, vb, rb, db⟩ := (show ObjOk X.prog X.w H s.heap b (.dK ls) from I.hok b _ h2)
    have el : va.length = vb.length := by
      rw [← ra.length, ← rb.length]
      exact hl
    refine SeqAt.eqP_refs e fun E Q q => PySem.W.rcP_dicts (knd := mixKind X.prog X.w) (r := true) ya yb da db (by omega) (fun _ => SS.KeqHits.toP (hits_x I (by show A.units + 1 + 10 < cLine; omega) rb ra hp)) E Q ?_
    rw [el]
    simpa using q
open MeetsSeq MeetsSeq2 MeetsSeq3 SeqRoads2 in
theorem tupNe_in {P : Program} {w : World} (l b : Addr) (it it2 : Array Value) (n n2 : Nat) (dd dd2 : Option Addr) (sl sl2 : Array (Option Value)) (hz : it.size = it2.size) :
    MeetsIn P w (Builtin.«tuple.__ne__» ⟨[.ref l, .ref b], []⟩)
      (fun A R s => s.heap.get? l = some { cls := .type "tuple", dict := dd, data := .seq it n, slots := sl } ∧ s.heap.get? b = some { cls := .type "tuple", dict := dd2, data := .seq it2 n2, slots := sl2 } ∧
        (∀ j (h1 : j < it.size) (h2 : j < it2.size), SeqAt.EqP P w A.in1 s it[j] it2[j] true) ∧ R (.ok (.ret (.bool false))) s) := by
  intro A R s h
  refine wpAny_mono (Q := fun fin s' => ∃ f, fin = .done f ∧ R (.ok f) s') ?_ (fun fin s' z => by obtain ⟨f, rfl, z⟩ := z; exact z) (fun _ _ z => z)
  obtain ⟨hp, g, d, tk, os⟩ := s
  obtain ⟨hl, hb, he, h⟩ := h
  have f2 := AutoSeq1.sub_tuple_tuple
  have zl : (it.toList.zip it2.toList).length = it.size := by
    rw [List.length_zip, Array.length_toList, Array.length_toList, hz, Nat.min_self]
  wp_walk using AutoSeq1.wpAny_loadPart' hl, AutoSeq1.wpAny_loadPart' hb, wpAny_forIn_list _ (fun rest c s' => c.1 = none ∧ s' = ⟨hp, g, d, tk, os⟩ ∧ ∃ i, rest = (it.toList.zip it2.toList).drop i) _
  case turn =>
    rintro ⟨y, x⟩ rest c s' ⟨hc, rfl, i, zi⟩
    have hlt : i < (it.toList.zip it2.toList).length := Nat.lt_of_not_le fun hh => by
      rw [List.drop_of_length_le hh] at zi
      cases zi
    have h1 : i < it.size := by omega
    have h2 : i < it2.size := by omega
    rw [List.drop_eq_getElem_cons hlt] at zi
    injection zi with za zb
    have ey : y = it[i] := by
      have q := congrArg Prod.fst za
      simpa using q
    have ex : x = it2[i] := by
      have q := congrArg Prod.snd za
      simpa using q
    subst ey ex
    refine wpAny_bind (he i h1 h2 _ _ ?_)
    wp_walk
    exact ⟨rfl, rfl, i + 1, zb⟩
  case fin =>
    rintro ⟨c1, c2⟩ s' ⟨hc, rfl, i, zi⟩
    simp only at hc
    subst hc
    wp_walk
    exact ⟨_, rfl, by simpa [Builtin.Tuple.tupleCompareSizes, bne, hz] using h⟩
  case h =>
    exact ⟨rfl, rfl, 0, rfl⟩
/-- (d, e) != (f, g), dicts alike in their places -/
def rNeT (K : PySem.W.Frag) : R2 := fun x y H Q => ∃ (p q : Addr) (xs ys : List V), x = .ref p ∧ y = .ref q ∧ SqT K H p xs ∧ SqT K H q ys ∧ Paired (DEq H) xs ys ∧ Q (.bl false) H
theorem op_neT (hu : X.A.units + 64 < cLine) : OpR X (compareOp .NotEq) (rNeT X.K) := by
  intro pins s σ H x y v u Q I rx ry h
  obtain ⟨p, r, xs, ys, rfl, rfl, h1, h2, hp, q⟩ := h
  obtain rfl : v = Value.ref p := rx
  obtain rfl : u = Value.ref r := ry
  obtain ⟨us, r1, ⟨⟨c1, d1, e1, g1⟩, o1, o2, n1, o3⟩, _⟩ := I.tuple h1
  obtain ⟨ws, r2, ⟨⟨c2, d2, e2, g2⟩, t1, t2, n2, t3⟩, _⟩ := I.tuple h2
  have o2' : c1 = .type "tuple" := o2
  have o3' : e1 = .seq us.toArray n1 := o3
  have t2' : c2 = .type "tuple" := t2
  have t3' : e2 = .seq ws.toArray n2 := t3
  subst o2' o3' t2' t3'
  have hz : us.toArray.size = ws.toArray.size := by
    rw [List.size_toArray, List.size_toArray, ← r1.length, ← r2.length]
    exact Paired.length hp
  have ta : s.TypeIs (.ref p) "tuple" := ⟨_, o1, rfl⟩
  have tb : s.TypeIs (.ref r) "tuple" := ⟨_, t1, rfl⟩
  refine wpAny_richCompare_same_room (op := .NotEq) ta tb F.slot_tuple_ne (call_meetsIn F.slot_tuple_ne ta F.entry_tuple_ne (F.args_tuple_ne_2 _ _) (tupNe_in p r us.toArray ws.toArray n1 n2 d1 d2 g1 g2 hz)
    ⟨o1, t1, fun j j1 j2 => ?_, ⟨(fun z => nomatch z), ⟨.bl false, H, I, rfl, q⟩⟩⟩) (by omega)
  have k := items_run (P := X.prog) (w := X.w) (A := X.A.in1) (s := s) (F := DEq H) (fun x y v u hd rv ru => deq_run I (by show X.A.units + 1 + 20 < cLine; omega) hd rv ru) hp r1 r2 j (by simpa using j1) (by simpa using j2)
  simpa using k
end
end SS
namespace SS
open PySem PySem.Spec PyProof.Rows L2
/-! ### things within things compared: lists, tuples and dicts, to any depth -/
/-- one step: two lists, two tuples or two dicts, alike in their places -/
def XR (K : PySem.W.Frag) (H : Hp) (E : V → V → Prop) (x y : V) : Prop :=
  EqR K H E x y ∨ ∃ a b xs ys, x = .ref a ∧ y = .ref b ∧ SqT K H a xs ∧ SqT K H b ys ∧ Paired E xs ys
def XV (K : PySem.W.Frag) (H : Hp) : Nat → V → V → Prop
  | 0 => fun _ _ => False
  | n + 1 => fun x y => (x = y ∧ flatB x = true) ∨ (∃ a, x = .ref a ∧ y = .ref a) ∨ XR K H (XV K H n) x y
section
variable {X : Cx} {pins : List (Addr × Obj)} {σ : L2.St} {H : Hp} {s : Shared}
theorem xr_run (I : Inv X pins σ H s) {A : Around} {F : V → V → Prop} (hu : A.units < cLine) (ih : ∀ x y v u, F x y → RelV x v → RelV y u → SeqAt.EqP X.prog X.w A.in1 s v u true) {x y : V} {v u : Value} (h : XR X.K H F x y) (rx : RelV x v) (ry : RelV y u)
    (E Q : Value → Shared → Prop) (q : Q (.bool true) s) : wpAny (model X.prog X.w) A (richCompare .Eq v u) Q E s := by
  rcases h with h | ⟨a, b, xs, ys, rfl, rfl, ha, hb, hp⟩
  · exact eqR_run I hu ih h rx ry E Q q
  · cases (show v = Value.ref a from rx)
    cases (show u = Value.ref b from ry)
    obtain ⟨us, r1, p1, _⟩ := I.tuple ha
    obtain ⟨ws, r2, p2, _⟩ := I.tuple hb
    have hsz : us.toArray.size = ws.toArray.size := by
      rw [List.size_toArray, List.size_toArray, ← r1.length, ← r2.length]
      exact Paired.length hp
    refine SeqAt.rcIn_tuples (e := fun _ => true) p1 p2 hu (fun j h1 h2 => ?_) ?_
    · have k := items_run ih hp r1 r2 j (by simpa using h1) (by simpa using h2)
      have k' : SeqAt.EqP X.prog X.w A.in1 s us.toArray[j] ws.toArray[j] true := by simpa using k
      exact k'
    · rw [show ((List.range (min us.toArray.size ws.toArray.size)).all fun _ => true) = true from List.all_eq_true.mpr fun _ _ => rfl, hsz]
      simpa using q
theorem xv_run (I : Inv X pins σ H s) : ∀ (n : Nat) (A : Around), A.units + n < cLine → ∀ (x y : V) (v u : Value), XV X.K H n x y → RelV x v → RelV y u → SeqAt.EqP X.prog X.w A s v u true
  | 0, _, _, _, _, _, _, h, _, _ => (show False from h).elim
  | n + 1, A, hu, x, y, v, u, h, rx, ry => by
    rcases h with ⟨rfl, f⟩ | ⟨a, rfl, rfl⟩ | h
    · exact (eqAt_same rx ry f).eqP
    · cases (show v = Value.ref a from rx)
      cases (show u = Value.ref a from ry)
      exact (SeqAt.EqAt.same _).eqP
    · have step := xr_run I (A := A) (by omega) (xv_run I n A.in1 (by show A.units + 1 + n < cLine; omega)) h rx ry
      obtain ⟨a, b, rfl, rfl⟩ : ∃ a b, x = .ref a ∧ y = .ref b := by
        rcases h with (⟨a, b, _, _, e1, e2, _⟩ | ⟨a, b, _, _, e1, e2, _⟩) | ⟨a, b, _, _, e1, e2, _⟩ <;> exact ⟨a, b, e1, e2⟩
      cases (show v = Value.ref a from rx)
      cases (show u = Value.ref b from ry)
      by_cases e : a = b
      · subst e
        exact (SeqAt.EqAt.same _).eqP
      · exact SeqAt.eqP_refs e step
/-- a == b, equal things -/
def rEqXV (K : PySem.W.Frag) : R2 := fun x y H Q => ∃ n, n ≤ 60 ∧ XR K H (XV K H n) x y ∧ Q (.bl true) H
theorem op_eqXV (hu : X.A.units + 64 < cLine) : OpR X (compareOp .Eq) (rEqXV X.K) := by
  intro pins s σ H x y v u Q I rx ry h
  obtain ⟨n, hn, h, q⟩ := h
  exact xr_run I (A := X.A) (by omega) (xv_run I n X.A.in1 (by show X.A.units + 1 + n < cLine; omega)) h rx ry _ _ ⟨.bl true, H, I, rfl, q⟩
/-- (..) != (..), two tuples that are equal -/
def rNeXT (K : PySem.W.Frag) : R2 := fun x y H Q => ∃ (n : Nat) (p q : Addr) (xs ys : List V), n ≤ 50 ∧ x = .ref p ∧ y = .ref q ∧ SqT K H p xs ∧ SqT K H q ys ∧ Paired (XV K H n) xs ys ∧ Q (.bl false) H
theorem op_neXT (hu : X.A.units + 64 < cLine) : OpR X (compareOp .NotEq) (rNeXT X.K) := by
  intro pins s σ H x y v u Q I rx ry h
  obtain ⟨n, p, r, xs, ys, hn, rfl, rfl, h1, h2, hp, q⟩ := h
  obtain rfl : v = Value.ref p := rx
  obtain rfl : u = Value.ref r := ry
  obtain ⟨us, r1, ⟨⟨c1, d1, e1, g1⟩, o1, o2, n1, o3⟩, _⟩ := I.tuple h1
  obtain ⟨ws, r2, ⟨⟨c2, d2, e2, g2⟩, t1, t2, n2, t3⟩, _⟩ := I.tuple h2
  have o2' : c1 = .type "tuple" := o2
  have o3' : e1 = .seq us.toArray n1 := o3
  have t2' : c2 = .type "tuple" := t2
  have t3' : e2 = .seq ws.toArray n2 := t3
  subst o2' o3' t2' t3'
  have hz : us.toArray.size = ws.toArray.size := by
    rw [List.size_toArray, List.size_toArray, ← r1.length, ← r2.length]
    exact Paired.length hp
  have ta : s.TypeIs (.ref p) "tuple" := ⟨_, o1, rfl⟩
  have tb : s.TypeIs (.ref r) "tuple" := ⟨_, t1, rfl⟩
  refine wpAny_richCompare_same_room (op := .NotEq) ta tb F.slot_tuple_ne (call_meetsIn F.slot_tuple_ne ta F.entry_tuple_ne (F.args_tuple_ne_2 _ _) (tupNe_in p r us.toArray ws.toArray n1 n2 d1 d2 g1 g2 hz)
    ⟨o1, t1, fun j j1 j2 => ?_, ⟨(fun z => nomatch z), ⟨.bl false, H, I, rfl, q⟩⟩⟩) (by omega)
  have k := items_run (P := X.prog) (w := X.w) (A := X.A.in1) (s := s) (F := XV X.K H n) (fun x y v u hd rv ru => xv_run I n _ (by show X.A.units + 1 + n < cLine; omega) _ _ _ _ hd rv ru) hp r1 r2 j (by simpa using j1) (by simpa using j2)
  simpa using k
end
end SS
namespace GxA
open PySem PySem.Spec PyProof.Rows L2
/-! ### all(elt for x in iter): any element, a frame of its own -/
/-- the context of a generator expression's frame -/
def gx (X : Cx) (scope : Scope) (A : Around) (s : Shared) (H : Hp) (C : Addr) (code : Value) (cl : List (Str × Addr)) (fp : List Addr) : Cx where
  prog := X.prog
  w := X.w
  K := X.K
  mg := X.mg
  base := X.base
  A := A
  N := X.N
  s_0 := s
  H_0 := H
  env := genEnv scope cl C code builtinsNs X.env
  outer := X.stack
  stack := genEnv scope cl C code builtinsNs X.env :: X.stack
  ex := fp
  fn := fun _ => false
  calm := true
  pn := []
  xe := fun _ _ => False
/-- the names of a generator expression and of the def around it -/
structure GxS (N : List Str) (sc scope : Scope) (x : Str) (ix : Nat) : Prop where
  kind : scope.kind = .function
  co : scope.isCoroutine = false
  cell : ∀ y ∈ scope.names, y.2 ≠ .cell
  dot : scope.names.lookup (".0" : Str) = some NameKind.local
  loc : scope.names.lookup x = some .local
  locs : ∀ y ∈ scope.names, y.2 = .local → y.1 = x ∨ y.1 = (".0" : Str)
  free : ∀ y ∈ scope.names, y.2 = .free → sc.names.lookup y.1 = some .cell ∨ sc.names.lookup y.1 = some .free
  ix : N[ix]? = some x
  nodot : (".0" : Str) ∉ N
  nd : N.Nodup
section
variable {X : Cx} {pins : List (Addr × Obj)} {σ : L2.St} {H : Hp} {s : Shared}
theorem GxS.cells {scope : Scope} {x : Str} {ix : Nat} (S : GxS X.N X.env.scope scope x ix) (ok : X.Ok) : ∀ y ∈ scope.names, y.2 = .free → ∃ c, X.env.cells.lookup y.1 = some c := fun y hy hf => by
  exact ok.has y.1 (S.free y hy hf)
theorem inv_gx {scope : Scope} {x : Str} {ix : Nat} {A : Around} {code : Value} {fp : List Addr} {a : Addr} {go : Obj} {g' : Array GenState} {tk : Nat} {h' : Heap} {m : Str → Option Value}
    (I : Inv X pins σ H s) (S : GxS X.N X.env.scope scope x ix) (hfp : ∀ b ∈ fp, FpOk X pins H b) (hob : ∀ b ∈ fp, ∃ o, s.heap.get? b = some o) (hA : A.handled = none)
    (hAf : A.frames = some (genEnv scope (cloFrom X.env.cells scope.names []) s.heap.objs.size code builtinsNs X.env :: X.stack)) (hk : ∀ b o, s.heap.get? b = some o → h'.get? b = some o) (hns : h'.Ns s.heap.objs.size m)
    (hg : AllBare g') (ha : h'.get? a = some go) (hsz : s.heap.objs.size < a) (hgo : ∀ v, go.data ≠ .cell v) :
    Inv (gx X scope A s H s.heap.objs.size code (cloFrom X.env.cells scope.names []) fp) [(a, go)] (σ.set ix none) H { s with gens := g', toks := tk, heap := h' } := by
  have hfree := S.cells I.ok
  have cm : ∀ {y : Str} {c : Addr}, (cloFrom X.env.cells scope.names []).lookup y = some c → X.env.cells.lookup y = some c := fun e => NdefX.clo_cm hfree e
  have lt : ∀ b o, s.heap.get? b = some o → b < s.heap.objs.size := fun b o e => Heap.lt_size e
  refine ⟨⟨I.ok.mod, S.kind, I.ok.glob, rfl, Nat.le_refl _, fun y z c h1 h2 => I.ok.inj y z c (cm h1) (cm h2), fun y hy => ?_, fun y c z => (by cases z), fun _ => hA, hAf, .inr ⟨rfl, rfl⟩, fun b hb => ⟨?_, fun y c e => (hfp b hb).2.2.2.2.1 y c (cm e)⟩, I.bs, Nat.le_trans I.ok.bsz I.sz, fun b o e hb => ?_, fun b hb hm => ?_, I.stack, I.stkFree⟩,
    rfl, hg, Un.kept hk, ⟨m, hns, fun i y v h1 h2 h3 => ?_⟩, fun y c e => ?_, I.hok.fresh (Nat.le_refl _), fun y c e => I.freeC y c (cm e), fun p hp => ?_, I.hok.kept hk, ?_⟩
  · have hy : scope.names.lookup y = some .cell ∨ scope.names.lookup y = some .free := hy
    rcases hy with hy | hy
    · exact absurd rfl (S.cell _ (PySem.mem_of_lookup hy))
    · obtain ⟨c, hc⟩ := hfree _ (PySem.mem_of_lookup hy) rfl
      exact ⟨c, NdefX.clo_has hfree (PySem.mem_of_lookup hy) hc⟩
  · obtain ⟨o, e⟩ := hob b hb
    exact Nat.ne_of_lt (lt b o e)
  · rcases (hfp b hb).2.2.2.1 with z | z
    · exact I.ok.noex b o e z
    · exact absurd (Nat.lt_of_lt_of_le (Nat.lt_of_lt_of_le (Heap.lt_size e) I.ok.bsz) z) (Nat.lt_irrefl _)
  · rcases List.mem_cons.mp (I.stkSub b hm) with z | z
    · exact (hfp b hb).2.1 z
    · exact (hfp b hb).2.2.1 z
  · have ne : i ≠ ix := fun e => by
      subst e
      by_cases c : i < σ.length
      · rw [List.getElem?_set_self c] at h2
        cases h2
      · rw [List.getElem?_eq_none (by rw [List.length_set]; omega)] at h2
        cases h2
    rw [List.getElem?_set_ne (Ne.symm ne)] at h2
    have hv : scope.names.lookup y = some .local ∨ scope.names.lookup y = some .cell ∨ scope.names.lookup y = some .free := h3
    have h1' : X.N[i]? = some y := h1
    rcases hv with z | z | z
    · rcases S.locs _ (PySem.mem_of_lookup z) rfl with e | e
      · have e' : y = x := e
        rw [e'] at h1'
        have hi := (List.getElem?_eq_some_iff.mp h1').1
        exact absurd ((List.getElem?_inj hi S.nd).mp (h1'.trans S.ix.symm)) ne
      · have e' : y = (".0" : Str) := e
        rw [e'] at h1'
        exact absurd (List.mem_of_getElem? h1') S.nodot
    · exact absurd rfl (S.cell _ (PySem.mem_of_lookup z))
    · have hx := S.free _ (PySem.mem_of_lookup z) rfl
      have hx' : X.env.scope.names.lookup y = some .cell ∨ X.env.scope.names.lookup y = some .free := hx
      obtain ⟨m', _, hl⟩ := I.loc
      obtain ⟨u, ru, lk⟩ := hl i y v h1' h2 (.inr hx')
      refine ⟨u, ru, .inr ⟨.inr z, ?_⟩⟩
      rcases lk with ⟨k, _⟩ | ⟨_, c, ec, ⟨oc, eo, ed⟩⟩
      · have k' : X.env.scope.names.lookup y = some .local := k
        rw [k'] at hx'
        rcases hx' with q | q <;> cases q
      · exact ⟨c, NdefX.clo_has hfree (PySem.mem_of_lookup z) ec, oc, hk _ _ eo, ed⟩
  · obtain ⟨v, o, ho, hd⟩ := I.cell y c (cm e)
    exact ⟨v, o, hk _ _ ho, hd⟩
  · have hp' : p ∈ [(a, go)] := hp
    rw [List.mem_singleton.mp hp']
    exact ⟨ha, I.hok.fresh (Nat.le_of_lt hsz), Nat.ne_of_gt hsz, fun hm => by
      rcases List.mem_cons.mp (I.stkSub a hm) with z | z
      · have h1 := I.lt
        rw [← z] at h1
        exact Nat.lt_asymm h1 hsz
      · exact I.nofs (Nat.le_of_lt hsz) z, hgo⟩
  · show (σ.set ix none).length = X.N.length
    rw [List.length_set]
    exact I.len
/-- back in the def's own frame -/
theorem inv_back {scope : Scope} {A : Around} {C : Addr} {code : Value} {cl : List (Str × Addr)} {fp : List Addr} {pz : List (Addr × Obj)} {σ' : L2.St} {H' : Hp} {s1 s' : Shared} (I : Inv X pins σ H s) (hfp : ∀ b ∈ fp, FpOk X pins H b)
    (J : Inv (gx X scope A s H C code cl fp) pz σ' H' s1) (ho : s'.os = s1.os) (hk : ∀ b o, s1.heap.get? b = some o → s'.heap.get? b = some o) (hg : AllBare s'.gens) : Inv X pins σ H' s' := by
  have u : Un (frs X.stack) fp H H' s.heap s1.heap := J.base
  refine I.call' (ch := fp) (ho.trans J.os) (u.trans (Un.kept hk)) (J.hok.kept hk) hg fun b hb => ?_
  obtain ⟨_, f1, _, f3, f4, f5⟩ := hfp b hb
  exact ⟨f3, f1, f4, f5⟩
end
/-- the consumer does nothing but look at the value -/
structure Again (s s' : Shared) : Prop where
  heap : s'.heap = s.heap
  os : s'.os = s.os
  bare : AllBare s'.gens
section
variable {X : Cx} {pins : List (Addr × Obj)} {σ : L2.St} {H : Hp} {s : Shared}
/-- the end of the walk; an element handed out -/
def RA (Y : Cx) (pz : List (Addr × Obj)) (Q : VK) : GenEnd := fun _ _ r s1 => r = .ok .next ∧ ∃ σ' H', Inv Y pz σ' H' s1 ∧ Q (.bl true) H'
def YA (Y : Cx) (pz : List (Addr × Obj)) (Q : VK) : Protocol := fun _ _ v s1 kap =>
  ∃ b σ' H', v = .bool b ∧ Inv Y pz σ' H' s1 ∧ (b = false → Q (.bl false) H') ∧ (b = true → ∀ s', Again s1 s' → kap (.send .none) s')
theorem Inv.again {Y : Cx} {pz : List (Addr × Obj)} {σ' : L2.St} {H' : Hp} {s1 s2 : Shared} (J : Inv Y pz σ' H' s1) (z : Again s1 s2) : Inv Y pz σ' H' s2 := by
  refine J.call' (ch := []) z.os (Un.kept fun b o e => by rw [z.heap]; exact e) (by rw [z.heap]; exact J.hok) z.bare fun b hb => by cases hb
/-- one turn's question, and what follows -/
def AllW (J : It) (te : TE) (σ : L2.St) (ix : Nat) (Q : VK) (W : Nat → Nat → Hp → Prop) : Prop := ∀ i m H', W i m H' →
  (J.stop i H' ∧ Q (.bl true) H') ∨ (J.go i H' ∧ ∃ N : Hp → Prop, (∀ H'', N H'' → ∃ m', m' < m ∧ W (i + 1) m' H'') ∧
    ∀ x H'', J.yld i H' x H'' → te (σ.set ix (some x)) H'' fun v H3 => ∃ b, v = .bl b ∧ (b = true → N H3) ∧ (b = false → Q (.bl false) H3))
theorem seg_all {elt iter : Expr} {x : Str} {px gpos : Pos} {scope : Scope} {B : Around} {C : Addr} {code : Value} {cl : List (Str × Addr)} {fp : List Addr} {it : Addr} {tn : Nat → Heap → Prop} {J : It} {te : TE} {ix : Nat} {Q : VK} {W : Nat → Nat → Hp → Prop} {pz : List (Addr × Obj)}
    (S : GxS X.N X.env.scope scope x ix) (T : Turn X.prog X.w X.K (.Name x px) J fp it tn)
    (hY : (B.over (.compLoop (.GeneratorExp elt [⟨.Name x px, iter, [], 0⟩] scope gpos) 0 (.ref it) .none (genEnv scope cl C code builtinsNs X.env)) []) = B.deeper (genEnv scope cl C code builtinsNs X.env))
    (he : PE (gx X scope (B.deeper (genEnv scope cl C code builtinsNs X.env)) s H C code cl fp) elt te) (hW : AllW J te σ ix Q W)
    (hpz : ∀ p ∈ pz, ∀ b ∈ fp, p.1 ≠ b) (hex : ∀ b ∈ fp, b ≠ C ∧ b ∉ frs X.stack ∧ ∀ y c, cl.lookup y = some c → c ≠ b) :
    ∀ (m n i : Nat) (o : Option V) (H' : Hp) (s₀ s1 : Shared), m < n → W i m H' → Inv (gx X scope (B.deeper (genEnv scope cl C code builtinsNs X.env)) s H C code cl fp) pz (σ.set ix o) H' s1 → tn i s1.heap → (∀ b ∈ fp, H' b = none) →
      Seg (model X.prog X.w) B (RA (gx X scope (B.deeper (genEnv scope cl C code builtinsNs X.env)) s H C code cl fp) pz Q) (YA (gx X scope (B.deeper (genEnv scope cl C code builtinsNs X.env)) s H C code cl fp) pz Q) n s₀
        (.compLoop (.GeneratorExp elt [⟨.Name x px, iter, [], 0⟩] scope gpos) 0 (.ref it) .none (genEnv scope cl C code builtinsNs X.env))
        ((model X.prog X.w).den (.compLoop (.GeneratorExp elt [⟨.Name x px, iter, [], 0⟩] scope gpos) 0 (.ref it) .none (genEnv scope cl C code builtinsNs X.env))) [] s1 := by
  intro m
  induction m using Nat.strongRecOn with
  | ind m ih =>
    intro n i o H' s₀ s1 hmn w I1 st1 fr1
    have fpok : ∀ {H1 : Hp}, (∀ b ∈ fp, H1 b = none) → ∀ b ∈ fp, FpOk (gx X scope (B.deeper (genEnv scope cl C code builtinsNs X.env)) s H C code cl fp) pz H1 b := fun hn b hb =>
      ⟨hn b hb, (hex b hb).1, (hex b hb).2.1, .inl hb, (hex b hb).2.2, fun p hp => hpz p (by simpa [gx] using hp) b hb⟩
    show Seg _ B _ _ n s₀ _ ((compTurn (.GeneratorExp elt [⟨.Name x px, iter, [], 0⟩] scope gpos) 0 (.ref it) .none (genEnv scope cl C code builtinsNs X.env)).onRaise (leaving (genEnv scope cl C code builtinsNs X.env))) [] s1
    rw [compTurn_gen, Sem.onRaise_eq_wrap]
    refine seg_bind_wrap (wpAny_standAt ?_)
    rcases hW i m H' w with ⟨stop, q⟩ | ⟨go, N, hN, step⟩
    · refine seg_bind_wrap ?_
      rw [hY]
      refine wpAny_mono (T.done (gx X scope (B.deeper (genEnv scope cl C code builtinsNs X.env)) s H C code cl fp) rfl rfl rfl rfl i pz s1 _ H' (fun _ _ => False) I1 (fpok fr1) st1 stop) (fun r s2 h2 => ?_) fun _ _ e => e.elim
      obtain ⟨rfl, I2⟩ := h2
      exact seg_end (.ok .next) ⟨rfl, _, H', I2, q⟩
    · obtain ⟨n, rfl⟩ : ∃ n', n = n' + 1 := ⟨n - 1, by omega⟩
      refine seg_bind_wrap ?_
      rw [hY]
      refine wpAny_mono (T.item (gx X scope (B.deeper (genEnv scope cl C code builtinsNs X.env)) s H C code cl fp) rfl rfl rfl rfl i pz s1 _ H' (fun _ _ => False) I1 (fpok fr1) st1 go) (fun r s2 h2 => ?_) fun _ _ e => e.elim
      obtain ⟨u, rfl, h2⟩ := h2
      refine seg_bind_wrap ?_
      rw [hY]
      refine wpAny_mono h2 (fun _ s3 h3 => ?_) fun _ _ e => e.elim
      obtain ⟨xv, H3, I3, r3, y3, st3, fr3⟩ := h3
      have I3' := Inv.pinned I3 (fpok fr3) (T.obj _ _ st3)
      refine seg_bind_wrap ?_
      rw [hY]
      have hpg : PG (gx X scope (B.deeper (genEnv scope cl C code builtinsNs X.env)) s H C code cl fp) (.Name x px) (gName ix) := pg_name S.nd S.ix (.inl S.loc) (.inr S.loc)
      refine wpAny_mono (hpg.run _ s3 _ H3 xv u (fun σ' H'' => σ' = σ.set ix (some xv) ∧ H'' = H3) I3' r3 ⟨by rw [List.set_set], rfl⟩) (fun _ s4 h4 => ?_) fun _ _ e => e.elim
      obtain ⟨σ4, H4, I4, rfl, rfl⟩ := h4
      refine seg_bind_wrap (wpAny_pure ?_)
      simp only [if_true]
      have hy : ∀ v, yieldOut (genEnv scope cl C code builtinsNs X.env) v = yieldValue v := fun v => by simp only [yieldOut, genEnv, S.co, Bool.false_eq_true, if_false]
      simp only [hy]
      rw [Sem.bind_eq_wrap', Sem.bind_eq_wrap', Sem.wrap_wrap, Sem.wrap_wrap]
      refine seg_wrap ?_
      rw [hY]
      refine wpAny_mono (he.run _ s4 _ H4 _ I4 (step xv H4 y3)) (fun v s5 h5 => ?_) fun _ _ e => e.elim
      obtain ⟨ve, H5, I5, r5, b, rfl, hb1, hb2⟩ := h5
      obtain rfl : v = Value.bool b := r5
      refine seg_at (seg_yield rfl rfl rfl ⟨b, _, H5, rfl, I5.unpinned, hb2, fun hb s6 z => ?_⟩)
      obtain ⟨m', hm', w'⟩ := hN H5 (hb1 hb)
      have I6 := Inv.again I5 z
      refine seg_again rfl (ih m' hm' n (i + 1) _ H5 s6 s6 (by omega) w' I6.unpinned ?_ fun b' hb' => ?_)
      · exact T.keep _ _ _ st3 fun b' hb' o' e' => (I6.pin (b', o') (List.mem_append_right _ (List.mem_append_right _ (mem_pinsAt hb' e')))).1
      · obtain ⟨o', e', d'⟩ := T.obj _ _ st3 b' hb'
        exact (I6.pin (b', o') (List.mem_append_right _ (List.mem_append_right _ (mem_pinsAt hb' e')))).2.1
end
end GxA
namespace GxA
open PySem PySem.Spec PyProof.Rows L2
theorem all_loop {prog : Program} {w : World} {A : Around} {a : Addr} {R : Result → Shared → Prop} {Rt : Bool → Shared → Prop} (St : Nat → Shared → Prop) (hR : ∀ b s', Rt b s' → R (.ok (.ret (.bool b))) s')
    (turn : ∀ n s E, St n s → wpAny (model prog w) A.in1 (pyNext (.ref a)) (fun r s' => (r = none ∧ Rt true s') ∨ ∃ b, r = some (.bool b) ∧ (b = true → ∃ n', n' < n ∧ St n' s') ∧ (b = false → Rt false s')) E s) :
    ∀ n s, St n s → codeAny (model prog w) A (.builtin "all.loop" ⟨[.ref a], []⟩) R s := by
  intro n
  induction n using Nat.strongRecOn with
  | ind n ih =>
    intro s hst
    refine codeAny_builtin F.entry_all_loop ?_
    rw [Around.under_plainId F.plain_all_loop _]
    show wpAny _ A.in1 (pyNext (.ref a) >>= _) _ _ s
    refine wpAny_bind (wpAny_mono (turn n s _ hst) (fun r s' h => ?_) fun _ _ e => e)
    rcases h with ⟨rfl, h⟩ | ⟨b, rfl, h1, h2⟩
    · refine wpAny_bind (wpAny_rule (wpAny_pure ?_))
      exact hR true s' h
    · refine wpAny_bind (wpAny_holding (wpAny_truthy_bool ?_))
      refine wpAny_bind (wpAny_letGo ?_)
      cases b with
      | true =>
        simp only [if_true]
        obtain ⟨n', hn, hst'⟩ := h1 rfl
        exact wpAny_pure ⟨plainId_quiet F.plain_all_loop _, ih n' hn s' hst'⟩
      | false =>
        simp only [Bool.false_eq_true, if_false]
        refine wpAny_bind (wpAny_rule (wpAny_pure ?_))
        exact hR false s' (h2 rfl)
theorem bare_set {s : Shared} {g : Nat} {x : GenState} (h : AllBare s.gens) (hx : x.bare = true) : AllBare (s.setGen g x).gens := fun y hy => by
  have hy' : y ∈ s.gens.setIfInBounds g x := hy
  obtain ⟨i, hi, rfl⟩ := Array.mem_iff_getElem.mp hy'
  have hi' : i < s.gens.size := by simpa using hi
  rw [Array.getElem_setIfInBounds hi']
  split
  · exact hx
  · exact h _ (Array.getElem_mem _)
def tAllG (P : Addr) (ix : Nat) (wi : TI) (te : TE) : TE := fun σ H Q => wi σ H fun J H1 => GxR.TabG H1 P ∧ ∀ H2, GxR.Tabbed P H1 H2 → ∃ W : Nat → Nat → Hp → Prop, (∃ m, W 0 m H2) ∧ AllW J te σ ix Q W
section
variable {X : Cx} {pins : List (Addr × Obj)} {σ : L2.St} {H : Hp} {s : Shared}
theorem over_deeper {B : Around} {elt : Expr} {gs : List Comprehension} {scope : Scope} {pos : Pos} {it : Value} {env : Env} : B.over (.compLoop (.GeneratorExp elt gs scope pos) 0 it .none env) [] = B.deeper env := by
  first
    | rfl
    | (obtain ⟨hd, d, fr, gd, u⟩ := B; simp [Around.over, Around.deeper, marksOver, frameCount, unitsOf, envsOf, guardsOf, pushEnvs, pushGuards, Code.envs, Code.env?, Code.isFrame, Code.guards, Code.isGuard, Code.weight, Code.frames, Code.isCreation, Code.isCaller, Code.cUnits])
set_option maxHeartbeats 4000000 in
theorem pe_allG {c P : Addr} {elt iter : Expr} {x : Str} {px p pos gpos : Pos} {scope : Scope} {wi : TI} {te : TE} {ix k : Nat}
    (hr : Room (k + 2) X.A) (hg : Gl X "all") (hm : X.mg "all" = none) (hb : bootBuiltins "all" = some (.builtin "all")) (TB : GxR.TabB X.base X.mg c P) (hcode : X.env.code = .ref c) (S : GxS X.N X.env.scope scope x ix) (hi : PI X (.Name x px) iter wi)
    (he : ∀ (s : Shared) (H : Hp) (C : Addr) (code : Value) (cl : List (Str × Addr)) (fp : List Addr), PE (gx X scope (X.A.in1.in1.deeper (genEnv scope cl C code builtinsNs X.env)) s H C code cl fp) elt te)
    (hs : ∀ v, genFold iter X.env v = pure v)
    (hst : starEach [.GeneratorExp elt [⟨.Name x px, iter, [], 0⟩] scope gpos] X.env = (false, eval (.GeneratorExp elt [⟨.Name x px, iter, [], 0⟩] scope gpos) X.env) :: starEach [] X.env := by rfl) :
    PE X (.Call (.Name "all" p) [.GeneratorExp elt [⟨.Name x px, iter, [], 0⟩] scope gpos] [] pos) (tAllG P ix wi te) := by
  refine ⟨fun pins s σ H Q I h => ?_⟩
  refine wpAny_Call_Name_kw (ld_blt I hg hm hb ?_)
  refine PyProof.Rows.callWith_builtin1 ?_ hst (by rfl)
  rw [hst]
  show wpAny _ _ (spliced ((false, eval (.GeneratorExp elt [⟨.Name x px, iter, [], 0⟩] scope gpos) X.env) :: backTo pos (starEach [] X.env))) _ _ s
  refine Calls.spliced_cons (wpAny_GeneratorExp_make S.co (closure_ok (S.cells I.ok)) S.cell S.dot S.kind (by have := hr.dp; omega) ?_ hs)
  refine thn (hi.run pins s σ H _ I h) fun xv s1 h1 => thn h1 fun itv s2 h2 => ?_
  obtain ⟨it, fp, tn, J, H2, rfl, I2, T, st2, f2, ⟨ps, hP, ht⟩, q2⟩ := h2
  refine ⟨I2.nolimit, ?_⟩
  have hPs : s2.heap.get? P = some { cls := .none, data := .fields ps } := I2.hok P _ hP
  have cd : PySem.W.CodeHd s2.heap c P := TB.code.keeps fun b u e => I2.bk b u e
  have nfP : ∀ b ∈ fp, b ≠ P := fun b hb e => by
    have z := (f2 b hb).1
    rw [e, hP] at z
    cases z
  have cont : ∀ (code : Value) (h3 : Heap) (tk : Nat) (ps' : Array Value), Heap.ExtBut P s2.heap h3 → h3.get? P = some { cls := .none, data := .fields ps' } → (∃ more, ps' = ps ++ more) → TriplesOk ps'.toList →
      wpAny (model X.prog X.w) X.A (builtinsFor X.env.globals X.env.builtins) (fun bi s₄ =>
        ∀ h', h'.Ns s₄.heap.objs.size (fun y => if y = ".0" then some (.ref it) else none) → Heap.SameBut s₄.heap.objs.size (s₄.heap.push { cls := .type "frame", data := .dict #[] }) h' →
          (fun v s' => wpAny (model X.prog X.w) X.A (spliced (backTo pos (starEach [] X.env))) (fun vs s'' => wpAny (model X.prog X.w) X.A (call (.builtin "all") (v :: vs)) (EP X pins σ Q) X.xe s'') X.xe s') (.ref h'.objs.size) { s₄ with
            gens := s₄.gens.push (.fresh (.compStart (.GeneratorExp elt [⟨.Name x px, iter, [], 0⟩] scope gpos) 0 (.ref it) .none (genEnv scope (cloFrom X.env.cells scope.names []) s₄.heap.objs.size code bi X.env))),
            toks := s₄.toks + 1 + 1 + 1,
            heap := h'.push { cls := .type "generator", data := .fields #[.int s₄.gens.size 0, .str "<genexpr>" (s₄.toks + 1), .str (X.env.qual ++ "<genexpr>") (s₄.toks + 1 + 1)] } }) X.xe { s2 with heap := h3, toks := tk } := by
    intro code h3 tk ps' hx hP3 hmore ht3
    obtain ⟨more, em⟩ := hmore
    subst em
    have I3 : Inv X pins σ (upd H2 P (.tbl (ps ++ more))) { s2 with heap := h3, toks := tk } := GxR.inv_tab (g' := s2.gens) (d' := s2.drawn) I2 hP (fun b o hb e => hx b o hb e) hP3 I2.bare
    have hTb : GxR.Tabbed P H2 (upd H2 P (.tbl (ps ++ more))) := ⟨⟨_, upd_same, ht3⟩, fun b hb => upd_ne hb⟩
    have f3 : ∀ b ∈ fp, FpOk X pins (upd H2 P (.tbl (ps ++ more))) b := fun b hb => ⟨by rw [upd_ne (nfP b hb)]; exact (f2 b hb).1, (f2 b hb).2⟩
    have st3 : tn 0 h3 := T.keep _ _ _ st2 fun b hb o e => hx b o (nfP b hb) e
    obtain ⟨W, ⟨m0, w0⟩, hW⟩ := q2 _ hTb
    generalize upd H2 P (.tbl (ps ++ more)) = H3 at I3 hTb f3 w0
    generalize hs4 : ({ s2 with heap := h3, toks := tk } : Shared) = s4 at I3
    have st4 : tn 0 s4.heap := by rw [← hs4]; exact st3
    obtain ⟨bm, ob, e1, e2, e3, e4, e5, e6, e7, e8⟩ := TB.bm
    refine wpAny_builtinsFor (m := X.mg) (by rw [I3.ok.glob]; exact I3.mod.glob.keeps I3.bk) e1 e2 (I3.bk _ _ e5) e6 e7 e8 ?_
    intro h' hn' hs'
    refine Calls.spliced_nil ?_
    have hsz : h'.objs.size = s4.heap.objs.size + 1 := by rw [hs'.1, Heap.size_push]
    have keep' : ∀ b o, s4.heap.get? b = some o → h'.get? b = some o := fun b o e => hs'.extBut b o (Nat.ne_of_lt (Heap.lt_size e)) (Heap.get?_push_of_some _ e)
    generalize hgo : ({ cls := .type "generator", data := .fields #[.int s4.gens.size 0, .str "<genexpr>" (s4.toks + 1), .str (X.env.qual ++ "<genexpr>") (s4.toks + 1 + 1)] } : Obj) = go
    have keep5 : ∀ b o, s4.heap.get? b = some o → (h'.push go).get? b = some o := fun b o e => Heap.get?_push_of_some _ (keep' b o e)
    have hgi : ∀ hh : Heap, hh.get? h'.objs.size = some go → hh.IsGen h'.objs.size s4.gens.size := fun hh e => ⟨go, _, _, e, by rw [← hgo], by rw [← hgo], by rw [← hgo]⟩
    have ha5 : (h'.push go).get? h'.objs.size = some go := Heap.get?_push_size _ (by rw [← hgo]; rfl)
    have hob : ∀ b ∈ fp, ∃ o, s4.heap.get? b = some o := fun b hb => let ⟨o, e, _⟩ := T.obj _ _ st4 b hb; ⟨o, e⟩
    have hgc : ∀ v, go.data ≠ .cell v := fun v z => by
      rw [← hgo] at z
      cases z
    generalize hcl : cloFrom X.env.cells scope.names [] = cl
    have hA : (X.A.in1.in1.deeper (genEnv scope cl s4.heap.objs.size code builtinsNs X.env)).handled = none := hr.hd
    have hAf : (X.A.in1.in1.deeper (genEnv scope cl s4.heap.objs.size code builtinsNs X.env)).frames = some (genEnv scope cl s4.heap.objs.size code builtinsNs X.env :: X.stack) := Around.frames_deeper (A := X.A.in1.in1) I3.ok.frames
    have hex : ∀ b ∈ fp, b ≠ s4.heap.objs.size ∧ b ∉ frs X.stack ∧ ∀ y c, cl.lookup y = some c → c ≠ b := fun b hb => by
      obtain ⟨o, e⟩ := hob b hb
      refine ⟨Nat.ne_of_lt (Heap.lt_size e), fun hm => ?_, fun y c e => ?_⟩
      · rcases List.mem_cons.mp (I3.stkSub b hm) with z | z
        · exact (f3 b hb).2.1 z
        · exact (f3 b hb).2.2.1 z
      · rw [← hcl] at e
        exact (f3 b hb).2.2.2.2.1 y c (NdefX.clo_cm (S.cells I3.ok) e)
    have hpz : ∀ p ∈ [(h'.objs.size, go)], ∀ b ∈ fp, p.1 ≠ b := fun p hp b hb z => by
      rw [List.mem_singleton.mp hp] at z
      obtain ⟨o, e⟩ := hob b hb
      have h1 := Heap.lt_size e
      have z' : h'.objs.size = b := z
      rw [← z', hsz] at h1
      exact Nat.lt_irrefl _ (Nat.lt_trans (Nat.lt_succ_self _) h1)
    have J0 : ∀ (G : Array GenState) (t : Nat), AllBare G → Inv (gx X scope (X.A.in1.in1.deeper (genEnv scope cl s4.heap.objs.size code builtinsNs X.env)) s4 H3 s4.heap.objs.size code cl fp) [(h'.objs.size, go)] (σ.set ix none) H3 { s4 with gens := G, toks := t, heap := h'.push go } := fun G t hG => by
      subst hcl
      exact inv_gx I3 S f3 hob hA hAf keep5 (hn'.push _) hG ha5 (by rw [hsz]; exact Nat.lt_succ_self _) hgc
    have back : ∀ {σ' : L2.St} {H' : Hp} {s5 s6 : Shared}, Inv (gx X scope (X.A.in1.in1.deeper (genEnv scope cl s4.heap.objs.size code builtinsNs X.env)) s4 H3 s4.heap.objs.size code cl fp) [(h'.objs.size, go)] σ' H' s5 → s6.os = s5.os → (∀ b o, s5.heap.get? b = some o → s6.heap.get? b = some o) → AllBare s6.gens → Inv X pins σ H' s6 := fun J5 ho hk hg => inv_back I3 f3 J5 ho hk hg
    have loop := seg_all (s := s4) (H := H3) (elt := elt) (iter := iter) (gpos := gpos) (B := X.A.in1.in1) (C := s4.heap.objs.size) (code := code) (cl := cl) (pz := [(h'.objs.size, go)]) S T over_deeper (he s4 H3 _ code cl fp) hW hpz hex
    refine call_function_tree F.kind_all F.plain_all F.entry_all (F.args_all1 _) ?_
    unfold Builtin.«all»
    refine wpAny_bind (m := oneArg "all" _) (wpAny_pure ?_)
    refine wpAny_bind (wpAny_pyIter_gen (hgi _ ha5) ?_)
    refine wpAny_pure ⟨plainId_quiet F.plain_all_loop _, ?_⟩
    refine all_loop (Rt := fun b s' => EP X pins σ Q (.bool b) s')
      (fun n s' => s'.heap.IsGen h'.objs.size s4.gens.size ∧ s'.heap.NoLimit ∧ AllBare s'.gens ∧ ∃ gs, s'.gens[s4.gens.size]? = some gs ∧
        ∀ s'', Again s' s'' → gs.Goes (model X.prog X.w) X.A.in1.in1 (RA (gx X scope (X.A.in1.in1.deeper (genEnv scope cl s4.heap.objs.size code builtinsNs X.env)) s4 H3 s4.heap.objs.size code cl fp) [(h'.objs.size, go)] Q) (YA (gx X scope (X.A.in1.in1.deeper (genEnv scope cl s4.heap.objs.size code builtinsNs X.env)) s4 H3 s4.heap.objs.size code cl fp) [(h'.objs.size, go)] Q) n (.send .none) s'')
      (fun b s' h => h) (fun n s' E hS => ?_) (m0 + 1) _ ?_
    · obtain ⟨g1, g2, g3, gs, g4, g5⟩ := hS
      have glt : s4.gens.size < s'.gens.size := (Array.getElem?_eq_some_iff.mp g4).1
      refine GenW.wpAny_gsz (n := s4.gens.size + 1) glt ?_
      refine wpAny_pyNext_genexpQ (P := fun _ _ s1 => ∃ σ' H', Inv (gx X scope (X.A.in1.in1.deeper (genEnv scope cl s4.heap.objs.size code builtinsNs X.env)) s4 H3 s4.heap.objs.size code cl fp) [(h'.objs.size, go)] σ' H' s1 ∧ Q (.bl true) H') hr.hd g2 hr.depth g1 g4
        (g5 _ ⟨rfl, rfl, bare_set g3 rfl⟩) (fun v s1 gs' hb hv => ?_) (fun s1 hp h6 hk6 => ?_)
      · intro hsz1
        obtain ⟨b, σ', H', rfl, J1, k1, k2⟩ := hv
        refine .inr ⟨b, rfl, fun hb1 => ?_, fun hb0 => ?_⟩
        · have k2' := k2 hb1
          cases n with
          | zero => exact absurd (k2' s1 ⟨rfl, rfl, J1.bare⟩) id
          | succ n =>
            refine ⟨n, Nat.lt_succ_self n, hgi _ (J1.pin (h'.objs.size, go) (List.mem_append_right _ (List.mem_singleton.mpr rfl))).1, J1.nolimit, bare_set J1.bare hb, gs', ?_, fun s'' z => ?_⟩
            · have hlt : s4.gens.size < s1.gens.size := by
                have z : s4.gens.size + 1 ≤ (s1.setGen s4.gens.size gs').gens.size := hsz1
                rw [GenW.setGen_size] at z
                exact z
              simp [Shared.setGen, hlt]
            · exact k2' s'' ⟨z.heap, z.os, z.bare⟩
        · exact ⟨.bl false, H', back J1 rfl (fun _ _ e => e) (bare_set J1.bare hb), rfl, k1 hb0⟩
      · intro _
        obtain ⟨σ', H', J1, qq⟩ := hp
        exact .inl ⟨rfl, .bl true, H', back J1 rfl hk6 (bare_set J1.bare rfl), rfl, qq⟩
    · refine ⟨hgi _ ha5, I3.nolimit.keeps keep5, AllBare.push I3.bare rfl, _, Array.getElem?_push_size .., fun s'' z => ⟨rfl, ?_⟩⟩
      have J1 := Inv.again (J0 _ (s4.toks + 1 + 1 + 1) (AllBare.push I3.bare rfl)) z
      have st5 : tn 0 s''.heap := by
        rw [z.heap]
        exact T.keep _ _ _ st4 fun b hb o e => keep5 b o e
      have fin := loop m0 (m0 + 1) 0 none H3 s'' s'' (Nat.lt_succ_self _) w0 J1 st5 (fun b hb => (f3 b hb).1)
      show Seg _ _ _ _ _ s'' _ ((compStart (.GeneratorExp elt [⟨.Name x px, iter, [], 0⟩] scope gpos) 0 (.ref it) .none (genEnv scope _ s4.heap.objs.size code builtinsNs X.env)).onRaise (leaving (genEnv scope _ s4.heap.objs.size code builtinsNs X.env))) [] s''
      subst hcl
      unfold compStart
      rw [Sem.onRaise_eq_wrap]
      show Seg _ _ _ _ _ s'' _ ((ask >>= _).wrap _ _ _ _) [] s''
      refine seg_bind_wrap (wpAny_askSetting ?_)
      split
      · exact seg_again rfl fin
      · first
          | exact seg_bind_wrap (wpAny_rule (seg_bind_wrap (wpAny_standAt (seg_bind_wrap (T.self _ 0 s'' _ _ st5 (seg_again rfl fin))))))
          | (refine seg_bind_wrap (wpAny_rule ?_); show Seg _ _ _ _ _ s'' _ ((standAt iter.pos >>= _).wrap _ _ _ _) [] s''; exact seg_bind_wrap (wpAny_standAt (seg_bind_wrap (T.self _ 0 s'' _ _ st5 (seg_again rfl fin)))))
  cases hf : codeAmong gpos ps.toList with
  | none =>
    refine wpAny_genexprCodeX hcode (cd.code hPs ht) (cd.tab hPs) hf fun c' h' tk hx hge hlt hco' _ htab' _ => ?_
    obtain ⟨o1, vs, f1, tf, fl, tg, inF, tx, tt, op, _, _, _, _, _, _, _, _, _, htr, _⟩ := hco'
    exact cont _ h' tk _ hx htab'.2 ⟨_, rfl⟩ htr
  | some cv =>
    refine wpAny_genexprCode_hit hcode (cd.code hPs ht) hf ?_
    exact cont cv s2.heap s2.toks ps (Heap.ExtBut.refl _ _) hPs ⟨#[], by simp⟩ ht
end
end GxA
namespace SS
open PySem PySem.Spec PyProof.Rows L2
section
variable {X : Cx}
/-- name = {k: v for ..} on one row, the name a local: the dict goes to the name ahead of the block's end -/
theorem ps_setDc {i : Nat} {y : Str} {py : Pos} {kx vx tg iter : Expr} {ifs : List Expr} {scope : Scope} {own : List (Str × Nat)} {pos spos : Pos} {wi : TI} {g : TG} {tt : TT} {tk tv : TE} (hc : X.calm = true) (hN : X.N.Nodup) (hy : X.N[i]? = some y) (hyl : X.env.scope.names.lookup y = some .local)
    (hsw : swapsWith (.DictComp kx vx [⟨tg, iter, ifs, 0⟩] scope pos) (some (.Name y py)) spos.line X.env = pure true) (hi : PI X tg iter wi) (ok : BlkOk X.N X.env.scope scope own)
    (hg : ∀ (s : Shared) (H : Hp) (B : Addr) (cl : List (Str × Addr)) (fp : List Addr), PG (X.blk s H scope (compEnvC scope cl B X.env) fp) tg g) (ht : ∀ (s : Shared) (H : Hp) (B : Addr) (cl : List (Str × Addr)) (fp : List Addr), PTs (X.blk s H scope (compEnvC scope cl B X.env) fp) ifs tt)
    (hk : ∀ (s : Shared) (H : Hp) (B : Addr) (cl : List (Str × Addr)) (fp : List Addr), PE (X.blk s H scope (compEnvC scope cl B X.env) fp) kx tk)
    (he : ∀ (s : Shared) (H : Hp) (B : Addr) (cl : List (Str × Addr)) (fp : List Addr), PE (X.blk s H scope (compEnvC scope cl B X.env) fp) vx tv) (hs : ∀ x, foldedSetIterable iter X.env x = pure x := by intro _; rfl) :
    PS X (.Assign [.Name y py] (.DictComp kx vx [⟨tg, iter, ifs, 0⟩] scope pos) spos) (tAsg (tDc wi g tt tk tv (own.map (·.2))) (gName i)) := by
  refine ⟨fun pins s σ H DD I hh => ?_⟩
  rw [exec_Assign_Name_used _ _ _ _ hsw]
  refine wpAny_bind (wpAny_standAt (wpAny_bind ?goal1))
  show wpAny _ X.A (do let _ ← comprehension (.DictComp kx vx [⟨tg, iter, ifs, 0⟩] scope pos) scope X.env (firstIterPos [⟨tg, iter, ifs, 0⟩] pos) newDict false (eval iter X.env) (some (assign (.Name y py) X.env))) _ _ s
  have hh : tDc wi g tt tk tv (own.map (·.2)) σ H (fun x H1 => gName i x σ H1 DD.nx) := hh
  refine wpAny_bind (thn (dc_core (Qf := fun _ s' => SP X pins DD .next s') hc hN I hi ok hg ht hk he hs hh fun L B s' m H' I' q hn f => ?goal2) fun _ s' hq => wpAny_pure (wpAny_pure hq))
  show wpAny _ _ (assign (.Name y py) X.env (.ref L)) _ _ _
  refine wpAny_assign_Name (store_ok2 (v := V.ref L) I' hN hy (.inl hyl) rfl (fun s2 I2 ⟨a, sb, ha⟩ => ?goal3) (.inr hyl))
  obtain ⟨f0, f1, _, f3, f4, f5⟩ := f
  have haB : B ≠ a := ha.elim (fun z => z ▸ f1) (fun z e => f4 y a z e.symm)
  exact ⟨m, hn.sameBut sb haB, fun h3 sb3 => ⟨_, H', I2.turned (t' := s2.toks) (fun b o hb e => (sb3.2 b hb).trans e) f0 f1 f3 f4 f5, q⟩⟩
theorem swD_true {kx vx : Expr} {gs : List Comprehension} {scope : Scope} {pos py : Pos} {y : Str} {l : Nat} {env : Env} (hk : env.scope.kind = .function) (hy : env.scope.names.lookup y = some .local) (hl : (py.line == pos.line) = true)
    (ha : (scope.names.any fun (n, k) => n == y && (k == .local || k == .cell)) = false) : swapsWith (.DictComp kx vx gs scope pos) (some (.Name y py)) l env = pure true := by
  have kind1 : env.kindOf y = some .local := hy
  have kind2 : env.blockKind = .function := by unfold Env.blockKind; rw [hk]; rfl
  unfold swapsWith
  simp only [kind2, kind1, ha, Expr.pos, hl]; rfl
end
end SS
namespace SS
open PySem PySem.Spec PyProof.Rows L2
open MeetsSeq MeetsSeq2 MeetsSeq3 SeqRoads2 in
theorem lstNe_loop {P : Program} {w : World} (l b : Addr) (it it2 : Array Value) (n n2 : Nat) (dd dd2 : Option Addr) (sl sl2 : Array (Option Value)) (hz : it.size = it2.size) (k : Nat) :
    ∀ i : Nat, it.size - i = k → MeetsIn P w (Builtin.«list.__eq__.loop» ⟨[.ref l, .ref b, rawInt i, rawInt 3], []⟩)
      (fun A R s => s.heap.get? l = some { cls := .type "list", dict := dd, data := .seq it n, slots := sl } ∧ s.heap.get? b = some { cls := .type "list", dict := dd2, data := .seq it2 n2, slots := sl2 } ∧
        (∀ j (h1 : j < it.size) (h2 : j < it2.size), SeqAt.EqP P w A.in1 s it[j] it2[j] true) ∧ R (.ok (.ret (.bool false))) s) := by
  induction k with
  | zero =>
    intro i hk A R s h
    obtain ⟨hp, g, d, tk, os⟩ := s
    obtain ⟨hl, hb, he, h⟩ := h
    wp_walk using AutoSeq1.wpAny_loadPart' hl, AutoSeq1.wpAny_loadPart' hb
    have a1 : it[((i : Nat) : Int).toNat]? = none := by simp; omega
    have a2 : it2[((i : Nat) : Int).toNat]? = none := by simp; omega
    rw [a1, a2]
    wp_walk using AutoSeq1.wpAny_loadPart' hl, AutoSeq1.wpAny_loadPart' hb
    show R (.ok (.ret (.bool (it.size != it2.size)))) _
    rw [hz]
    simpa using h
  | succ k ih =>
    intro i hk A R s h
    obtain ⟨hp, g, d, tk, os⟩ := s
    obtain ⟨hl, hb, he, h⟩ := h
    wp_walk using AutoSeq1.wpAny_loadPart' hl, AutoSeq1.wpAny_loadPart' hb
    have b1 : i < it.size := by omega
    have b2 : i < it2.size := by omega
    have a1 : it[((i : Nat) : Int).toNat]? = some it[i] := by simp [b1]
    have a2 : it2[((i : Nat) : Int).toNat]? = some it2[i] := by simp [b2]
    have hc : ((i : Int) + 1) = ((i + 1 : Nat) : Int) := by omega
    rw [a1, a2]
    refine wpAny_bind (he i b1 b2 _ _ ?_)
    wp_walk
    rw [hc]
    exact ⟨plainId_quiet plain_eq_loop _, codeAny_builtin entry_eq_loop (by
      rw [Around.under_plainId plain_eq_loop _]; exact ih (i + 1) (by omega) A R _ ⟨hl, hb, he, h⟩)⟩
open MeetsSeq MeetsSeq2 MeetsSeq3 SeqRoads2 in
theorem lstNe_in {P : Program} {w : World} (l b : Addr) (it it2 : Array Value) (n n2 : Nat) (dd dd2 : Option Addr) (sl sl2 : Array (Option Value)) (hz : it.size = it2.size) :
    MeetsIn P w (Builtin.«list.__ne__» ⟨[.ref l, .ref b], []⟩)
      (fun A R s => s.heap.get? l = some { cls := .type "list", dict := dd, data := .seq it n, slots := sl } ∧ s.heap.get? b = some { cls := .type "list", dict := dd2, data := .seq it2 n2, slots := sl2 } ∧
        (∀ j (h1 : j < it.size) (h2 : j < it2.size), SeqAt.EqP P w A.in1 s it[j] it2[j] true) ∧ R (.ok (.ret (.bool false))) s) := by
  intro A R s h
  obtain ⟨hp, g, d, tk, os⟩ := s
  obtain ⟨hl, hb, he, h⟩ := h
  have f3 := AutoSeq1.sub_list_list
  have nz : ¬ (it.size != it2.size) = true := by simp [hz]
  wp_walk using AutoSeq1.wpAny_loadPart' hl, AutoSeq1.wpAny_loadPart' hb
  exact ⟨plainId_quiet plain_eq_loop _, codeAny_builtin entry_eq_loop (by
    rw [Around.under_plainId plain_eq_loop _]; exact lstNe_loop l b it it2 n n2 dd dd2 sl sl2 hz _ 0 rfl A R _ ⟨hl, hb, he, h⟩)⟩
section
variable {X : Cx}
/-- [..] != [..], two lists that are equal -/
def rNeXL (K : PySem.W.Frag) : R2 := fun x y H Q => ∃ (n : Nat) (p q : Addr) (xs ys : List V), n ≤ 50 ∧ x = .ref p ∧ y = .ref q ∧ SqL K H p xs ∧ SqL K H q ys ∧ Paired (XV K H n) xs ys ∧ Q (.bl false) H
theorem op_neXL (hu : X.A.units + 64 < cLine) : OpR X (compareOp .NotEq) (rNeXL X.K) := by
  intro pins s σ H x y v u Q I rx ry h
  obtain ⟨n, p, r, xs, ys, hn, rfl, rfl, h1, h2, hp, q⟩ := h
  obtain rfl : v = Value.ref p := rx
  obtain rfl : u = Value.ref r := ry
  obtain ⟨us, r1, p1, _⟩ := I.list h1
  obtain ⟨ws, r2, p2, _⟩ := I.list h2
  obtain ⟨⟨c1, d1, e1, g1⟩, o1, o2, n1, o3⟩ := id p1.isList
  obtain ⟨⟨c2, d2, e2, g2⟩, t1, t2, n2, t3⟩ := id p2.isList
  have o2' : c1 = .type "list" := o2
  have o3' : e1 = .seq us.toArray n1 := o3
  have t2' : c2 = .type "list" := t2
  have t3' : e2 = .seq ws.toArray n2 := t3
  subst o2' o3' t2' t3'
  have hz : us.toArray.size = ws.toArray.size := by
    rw [List.size_toArray, List.size_toArray, ← r1.length, ← r2.length]
    exact Paired.length hp
  have ta : s.TypeIs (.ref p) "list" := ⟨_, o1, rfl⟩
  have tb : s.TypeIs (.ref r) "list" := ⟨_, t1, rfl⟩
  refine wpAny_richCompare_same_room (op := .NotEq) ta tb F.slot_list_ne (call_meetsIn F.slot_list_ne ta F.entry_list_ne (F.args_list_ne_2 _ _) (lstNe_in p r us.toArray ws.toArray n1 n2 d1 d2 g1 g2 hz)
    ⟨o1, t1, fun j j1 j2 => ?_, ⟨(fun z => nomatch z), ⟨.bl false, H, I, rfl, q⟩⟩⟩) (by omega)
  have k := items_run (P := X.prog) (w := X.w) (A := X.A.in1) (s := s) (F := XV X.K H n) (fun x y v u hd rv ru => xv_run I n _ (by show X.A.units + 1 + n < cLine; omega) _ _ _ _ hd rv ru) hp r1 r2 j (by simpa using j1) (by simpa using j2)
  simpa using k
end
end SS
namespace SS
open PySem PySem.Spec PyProof.Rows L2
/-! ### a def that is handed the error which a suite holds -/
structure FnP (P : Program) (w : World) (K : PySem.W.Frag) (mg : Str → Option Value) (base : Heap) (k : Nat) (f : Addr) (fd : FuncData) (ps : List Str) (sp : Sp) (pe : Addr × Obj) : Prop where
  len : ∀ vs H Q E, sp vs H Q E → vs.length = ps.length
  run : ∀ (A : Around) (outer : List Env) (s : Shared) (H : Hp) (args : Args) (us : List Value) (vs : List V) (Q : VK) (E : XK), L2H.RoomH k A → L2H.PinOk outer H s pe → Env0 P w K mg base A outer s H → BindsTo s fd args (ps.zip us) → Vals vs us → sp vs H Q E →
    codeAny (model P w) A (.call (.ref f) args) (CR CX0 outer P w H s Q E) s
theorem Fun.okP {P : Program} {w : World} {K : PySem.W.Frag} {mg : Str → Option Value} {base : Heap} {x qual : Str} {st : Stmt} {f : Addr} {fd : FuncData} {N ps : List Str} {k : Nat} {sp : Sp} (F : Fun K x qual st f fd) (S : FnScope N ps (defScope st)) (pe : Addr × Obj)
    (len : ∀ vs H Q E, sp vs H Q E → vs.length = ps.length)
    (hbody : ∀ (cdv : Value) (A : Around) (outer : List Env) (s : Shared) (H : Hp) (vs : List V) (Q : VK) (E : XK), L2H.RoomH k (A.deeper (envOfC qual (defScope st) s.heap.objs.size f cdv)) → sp vs H Q E →
      ∃ t, PSs (L2H.cxH CX0 P w K mg base N qual (defScope st) f cdv A outer s H E pe) (defBody st) t ∧ t { nx := fun _ H' => Q .non H', rt := Q } (L2.start N vs) H) : FnP P w K mg base (k + 1) f fd ps sp pe := by
  obtain ⟨oc, od, kV, doc, pm, an, cdv, ct, osl, rfl, look, code⟩ := F.ex
  refine ⟨len, fun A outer s H args us vs Q E hr pin env bnd r hsp => ?_⟩
  have ll := len _ _ _ _ hsp
  have inK : K.In s.heap := env.mod.kin.keeps fun b o e => (env.bs b o e).1
  have noL : s.heap.NoLimit := env.mod.nolimit.keeps fun b o e => (env.bs b o e).1
  have kinds : ∀ y ∈ ps.zip us, (defScope st).names.lookup y.1 = some .local ∨ ((defScope st).names.lookup y.1 = some .cell ∧ ((cellsFrom (s.heap.objs.size + 1) (defScope st).names []).lookup y.1).isSome = true) := fun ⟨n, v⟩ hy =>
    (S.par n (List.of_mem_zip hy).1).elim .inl fun q => .inr ⟨q, PySem.W.cellsFrom_some _ _ _ (.inl q)⟩
  refine codeAny_call_function hr.depth (inK _ _ look) rfl S.co S.gen rfl (PySem.W.codeRec_of inK code) (bnd _ _ _ _ ?_)
  refine wpAny_newFunctionEnv_cells S.kind kinds fun en he s1 xc => ?_
  subst he
  refine ⟨noL.keeps xc.toInCall.keep, codeAny_func ?_⟩
  obtain ⟨t, ht, hq⟩ := hbody cdv A outer s H vs Q E (hr.deeper _) hsp
  have I : Inv (L2H.cxH CX0 P w K mg base N qual (defScope st) f cdv A outer s H E pe) [] (L2.start N vs) H s1 := L2H.inv_startH S pin env ll r xc
  refine wpAny_mono (ht.run [] s1 (L2.start N vs) H _ I hq) (fun fl s' hs => ?_) fun _ _ z => z
  match fl, hs with
  | .ret _, ⟨v, _, H', J, rv, qv⟩ => exact ⟨v, H', J.os, J.bare, J.base, J.hok, rv, qv⟩
  | .next, ⟨_, H', J, qv⟩ => exact ⟨.non, H', J.os, J.bare, J.base, J.hok, rfl, qv⟩
  | .brk, ⟨_, _, _, qv⟩ => exact False.elim qv
  | .cont, ⟨_, _, _, qv⟩ => exact False.elim qv
theorem roomP {k : Nat} {A : Around} (r : Room k A) (h : Option Value) : L2H.RoomH k (A.mark h) := ⟨r.dp, r.un⟩
/-- as its callers know it -/
structure ClP (P : Program) (w : World) (K : PySem.W.Frag) (mg : Str → Option Value) (base : Heap) (k : Nat) (x : Str) (sp : Sp) (pe : Addr × Obj) : Prop where
  ex : ∃ (f : Addr) (fd : FuncData) (ps : List Str), FnP P w K mg base k f fd ps sp pe ∧ mg x = some (.ref f) ∧ PySem.W.keepIn K (.ref f) = true ∧ Binds K fd ps []
section
variable {X : Cx} {k : Nat} {x : Str} {sp : Sp} {pe : Addr × Obj} {q pos : Pos} {e : Expr} {es : List Expr} {t : TA}
theorem pcP (c : ClP X.prog X.w X.K X.mg X.base k x sp pe) (hr : L2H.RoomH k X.A) (hp : pe ∈ X.pn) (ha : PA X (e :: es) t) (hg : Gl X x := by rfl)
    (hdb : (x == ("__debug__" : Str)) = false := by decide) (he : starEach (e :: es) X.env = (false, eval e X.env) :: starEach es X.env := by rfl) (hpl : (backTo pos (starEach es X.env)).any (·.1) = false := by rfl) :
    PE X (.Call (.Name x q) (e :: es) [] pos) (tCall sp [] E0 t) := by
  obtain ⟨f, fd, ps, F, gm, kp, bd⟩ := c.ex
  refine ⟨fun pins s σ H Q I h => ?_⟩
  refine wpAny_Call_Name_kw (ld_glob I hg gm ?_ hdb)
  refine PySem.W.callWith_K (h₀ := X.base) I.ok.mod.kin kp (thn (ha.run pos pins s σ H _ I h) fun us s1 ⟨vs, H1, I1, r, hv⟩ => ⟨I1.kIn, ?_⟩) he hpl
  have hv : sp (vs ++ []) H1 Q E0 := hv
  rw [List.append_nil] at hv
  have hl : us.length = ps.length := by rw [← r.length]; exact F.len _ _ _ _ hv
  have b := bd s1 us I1.kIn (by rw [List.append_nil]; exact hl)
  rw [List.append_nil] at b
  have P1 := I1.pin pe (List.mem_append_left _ hp)
  have pin : L2H.PinOk X.stack H1 s1 pe := ⟨P1.1, P1.2.1, fun hm => (List.mem_cons.mp (I1.stkSub pe.1 hm)).elim P1.2.2.1 P1.2.2.2.1, P1.2.2.2.2⟩
  refine wpAny_call (codeAny_mono (F.run X.A X.stack s1 H1 ⟨us, []⟩ us vs Q _ hr pin I1.env0 b r hv) fun rr s' hq => ?_)
  match rr, hq with
  | .ok (.ret u), hq => exact I1.after hq
  | .ok .next, hq => exact False.elim hq
  | .ok .brk, hq => exact False.elim hq
  | .ok .cont, hq => exact False.elim hq
  | .error _, hq => exact False.elim hq
/-- isinstance(e, c), e an error that the context holds -/
theorem call_isP {a D : Addr} {oe : Obj} (C : ExcC X.K D) (hz : Zc (.ref D) none oe) (hf : ∃ vs, oe.data = .fields vs) (hp : (a, oe) ∈ X.pn) : CallR X (.builtin "isinstance") (rIsE X.K D a) := by
  intro pins s σ H xs us Q I rr hh
  obtain ⟨c, cv, b, rfl, hcv, ek, qq⟩ := hh
  obtain ⟨v1, v2, rfl, ra, rt⟩ := vals2 rr
  cases (show v1 = Value.ref a from ra)
  have ec := hcv _ rt
  subst ec
  obtain ⟨got, _⟩ := I.pin (a, oe) (List.mem_append_left _ hp)
  obtain ⟨fs, hv⟩ := hf
  have J : PySem.W.InstAt s.heap a oe D none := by
    obtain ⟨o1, o2, o3, o4⟩ := oe
    obtain ⟨w1, w2⟩ := hz
    dsimp only at w1 w2 hv
    subst w1 w2 hv
    exact ⟨got, rfl, rfl, trivial⟩
  exact PySem.W.kia_one (PySem.W.handS_kitx_exc C.hg C.hk C.hs C.hd C.ha C.hn C.ht C.hm) I.kIn J ek (fun z => nomatch z)
    fun tk => ⟨.bl b, H, I.kept (t' := tk) fun _ _ z => z, rfl, qq⟩
/-- l.count(True), of a list of truths -/
def isT : Value → Bool
  | .bool b => b
  | _ => false
theorem vals_bls : ∀ {bs : List Bool} {us : List Value}, Vals (bs.map V.bl) us → us = bs.map Value.bool
  | [], _, .nil => rfl
  | b :: bs, _, .cons h t => by
    have e : _ = Value.bool b := h
    rw [e, vals_bls t]
    rfl
theorem mt_countT : MtR X "list.count" (fun x xs H Q => ∃ (p : Addr) (bs : List Bool), x = .ref p ∧ xs = [.bl true] ∧ SqL X.K H p (bs.map V.bl) ∧ Q (.int (bs.count true : Nat)) H) := by
  intro pins s σ H x xs v us Q I rx rxs h
  obtain ⟨p, bs, rfl, rfl, hs, qq⟩ := h
  cases rx
  obtain ⟨u, rfl, ru⟩ := rxs.one
  cases (show u = Value.bool true from ru)
  obtain ⟨its, rv, ⟨⟨c1, d1, e1, sl⟩, n, ho, hc, _, hd⟩, _⟩ := I.list hs
  simp only at hc hd
  subst hc hd
  have ei := vals_bls rv
  subst ei
  refine call_meets PySem.F.slot_list_count ⟨_, ho, rfl⟩ PySem.F.entry_list_count (PySem.F.args_list_count_2 _ _)
    (SeqAt.list_countAt p (bs.map Value.bool).toArray n d1 sl (.bool true) isT) ⟨ho, fun y hy => ?_, ?_⟩
  · obtain ⟨b, _, rfl⟩ := List.mem_map.mp (show y ∈ bs.map Value.bool by simpa using hy)
    rw [show isT (.bool b) = (b == true) by cases b <;> rfl]
    exact SeqAt.EqAt.bool_bool b true
  · have ec : (bs.map Value.bool).toArray.toList.countP isT = bs.count true := by
      rw [List.toList_toArray, List.countP_map]
      exact List.countP_congr fun b _ => by cases b <;> decide
    refine ⟨.int (bs.count true : Nat), H, I.tok _, ⟨s.toks, ?_⟩, qq⟩
    show Value.int (((bs.map Value.bool).toArray.toList.countP isT : Nat) : Int) s.toks = Value.int ((bs.count true : Nat) : Int) s.toks
    rw [ec]
end
end SS
namespace SS
open PySem PySem.Spec PyProof.Rows L2
theorem star_items {prog : Program} {w : World} {A : Around} {E : Value → Shared → Prop} {s : Shared} {l : Addr} {x : Value} {xs : List Value} {Q : List Value → Shared → Prop} (hh : A.handled = none) (hl : s.heap.IsList l (x :: xs).toArray) (hz : xs.length ≤ 16000)
    (hQ : ∀ (h' : Heap) (tk : Tok), (∀ b o, b ≠ s.heap.objs.size → s.heap.get? b = some o → h'.get? b = some o) → Q [x, .ref h'.objs.size] { s with heap := h'.push { cls := .type "list", data := .seq xs.toArray }, toks := tk }) : wpAny (model prog w) A (unpackItems (.ref l) 2 (some 1)) Q E s := by
  have hlt : l ≠ s.heap.objs.size := by obtain ⟨o, ho, _⟩ := hl; exact Nat.ne_of_lt (Heap.lt_size ho)
  unfold unpackItems
  refine wpAny_bind ?_
  unfold notIterableAtAll
  refine wpAny_bind (wpAny_specialOf hl.typeIs PySem.F.slot_list_iter.lookup ?_)
  refine wpAny_pure ?_
  simp only [Bool.false_eq_true, if_false]
  refine wpAny_bind (wpAny_holding (wpAny_pyIter_list hl ?_))
  refine wpAny_bind (wpAny_holding (PySem.W.kun_draw hlt 1 0 _ _ ⟨_, Heap.get?_push_size _ rfl, rfl, rfl⟩ (hl.push _) (by simp) fun h₁ hit₁ hs₁ => ?_))
  have hl₁ : h₁.IsList l (x :: xs).toArray := (hl.push _).extBut hs₁.extBut hlt
  rw [Nat.zero_add] at hit₁
  have hit₁' := hit₁
  obtain ⟨oi, hoi, _⟩ := hit₁'
  have hl₁' := hl₁
  obtain ⟨ol, hol, _⟩ := hl₁'
  have ef : List.take 1 (List.drop 0 (x :: xs).toArray.toList) = [x] := by simp
  rw [ef]
  show wpAny _ _ (if ([x] : List Value).length < 1 then _ else _) _ _ _
  rw [if_neg (by simp)]
  refine wpAny_bind (wpAny_holding (PySem.W.kun_collect (s := { s with heap := h₁ }) (T := "list_iterator") (.inr (.inr (.inl rfl))) (Walks.list (A := A.in1) hh s.heap.objs.size l hlt (x :: xs).toArray) (fun j u st => st.1.typeIs) (k := 1) (by simp) ⟨hit₁, hl₁⟩ (Heap.lt_size hoi) (Heap.lt_size hol) (fun h₂ tk hk => ?_) (by rw [sizeLine_eq]; simp; omega)))
  have er : List.drop 1 (x :: xs).toArray.toList = xs := by simp
  rw [er]
  show wpAny _ _ (if xs.length < 2 - 1 - 1 then _ else _) _ _ _
  rw [if_neg (by simp)]
  show wpAny _ _ (newList (xs.take (xs.length - (2 - 1 - 1))) >>= fun d => pure ([x] ++ [d] ++ xs.drop (xs.length - (2 - 1 - 1)))) _ _ _
  have e1 : xs.take (xs.length - (2 - 1 - 1)) = xs := by simp
  have e2 : xs.drop (xs.length - (2 - 1 - 1)) = [] := by simp
  rw [e1, e2]
  refine wpAny_bind (wpAny_newList (wpAny_pure ?_) (by rw [sizeLine_eq]; omega))
  exact hQ h₂ tk fun b o hb e => hk b o hb (hs₁.extBut b o hb (Heap.get?_push_of_some _ e))
section
variable {X : Cx} {pos p : Pos}
/-- a, *b = a list of one or more -/
def gStar (K : PySem.W.Frag) (t : TGs) : TG := fun v σ H Q => ∃ a x xs, v = .ref a ∧ SqL K H a (x :: xs) ∧ xs.length ≤ 16000 ∧ ∀ D, H D = none → t [x, .ref D] σ (upd H D (.lst xs)) Q
theorem pg_star {e1 e2 : Expr} {k : Nat} {t : TGs} (hc : X.calm = true) (h : PGs X [e1, e2] t)
    (hn : (assignEach [e1, .Starred e2 p] X.env).length = 2 := by rfl) (hst : (assignEach [e1, .Starred e2 p] X.env).findIdx? (·.1) = some 1 := by rfl) (hm : (assignEach [e1, .Starred e2 p] X.env).map (·.2) = (assignEach [e1, e2] X.env).map (·.2) := by rfl) : PG X (.Tuple [e1, .Starred e2 p] k pos) (gStar X.K t) := by
  refine ⟨fun pins s σ H v u Q I r hw => ?_⟩
  obtain ⟨a, x, xs, e1', hq, hl, hw⟩ := hw
  subst e1'
  cases r
  obtain ⟨its, rv, pl, hz⟩ := I.list hq
  cases rv with
  | @cons _ y _ ys r0 rv =>
  have hl' : s.heap.IsList a (y :: ys).toArray := by
    obtain ⟨o, m, e, c, d, q⟩ := pl
    exact ⟨o, e, c, m, q⟩
  rw [PyProof.Rows.assign_Tuple]
  refine wpAny_bind (wpAny_standAt ?_)
  unfold unpack
  rw [hn, hst, hm]
  refine wpAny_bind (wpAny_holding (star_items (I.ok.hd hc) hl' (by rw [← rv.length]; exact hl) fun h' tk hx => ?_))
  have I1 : Inv X pins σ H { s with heap := h', toks := tk } := I.kept (t' := tk) fun b o e => hx b o (Nat.ne_of_lt (Heap.lt_size e)) e
  have hf : H h'.objs.size = none := I1.hok.fresh (Nat.le_refl _)
  have I2 := I1.laid (t' := tk) (o := .lst xs) (h' := h'.push { cls := .type "list", data := .seq ys.toArray }) (fun b u e => Heap.get?_push_of_some _ e) (Nat.le_refl _) ⟨by rw [sizeLine_eq]; omega, ys, 0, rv, Heap.get?_push_size _ rfl⟩
  exact h.run pins _ σ _ [x, .ref h'.objs.size] _ Q I2 (.cons r0 (.cons rfl .nil)) (hw _ hf)
end
end SS
namespace SS
open PySem PySem.Spec PyProof.Rows L2 TL NumText
/-! ### fractions as texts -/
def digB (l : List Nat) : Bool := l.all fun c => decide (48 ≤ c) && decide (c ≤ 57)
def wokB (l : List Nat) : Bool := decide (1 ≤ l.length) && decide (l.length ≤ 30) && digB l
def leadB (l : List Nat) : Bool := decide (l.head? = some 48) && decide (1 < l.length)
def figs (l : List Nat) : Option Nat := if (wokB l && !leadB l) = true then some (digitsVal l) else none
theorem digB_iff {l : List Nat} : digB l = true ↔ AllDigits l := by
  unfold digB AllDigits
  rw [List.all_eq_true]
  refine ⟨fun h c hc => ?_, fun h c hc => ?_⟩
  · have z := h c hc
    rw [Bool.and_eq_true, decide_eq_true_iff, decide_eq_true_iff] at z
    exact z
  · rw [Bool.and_eq_true, decide_eq_true_iff, decide_eq_true_iff]
    exact h c hc
theorem wokB_iff {l : List Nat} : wokB l = true ↔ 1 ≤ l.length ∧ l.length ≤ 30 ∧ AllDigits l := by
  unfold wokB
  rw [Bool.and_eq_true, Bool.and_eq_true, decide_eq_true_iff, decide_eq_true_iff, digB_iff, and_assoc]
theorem dv_snoc (l : List Nat) (c : Nat) : digitsVal (l ++ [c]) = digitsVal l * 10 + (c - 48) := by
  unfold digitsVal
  rw [List.foldl_append]
  rfl
theorem snoc_ind {p : List Nat → Prop} (h0 : p []) (hs : ∀ l c, p l → p (l ++ [c])) (l : List Nat) : p l := by
  rw [← List.reverse_reverse l]
  induction l.reverse with
  | nil => exact h0
  | cons c r ih =>
    rw [List.reverse_cons]
    exact hs _ _ ih
theorem dgv_lt (l : List Nat) : AllDigits l → digitsVal l < 10 ^ l.length := by
  refine snoc_ind (p := fun l => AllDigits l → digitsVal l < 10 ^ l.length) (fun _ => by decide) (fun l c ih h => ?_) l
  have z := ih fun x hx => h x (List.mem_append_left _ hx)
  have y := h c (List.mem_append_right _ List.mem_cons_self)
  rw [dv_snoc, List.length_append, show [c].length = 1 from rfl, Nat.pow_succ]
  omega
theorem num_self (l : List Nat) : AllDigits l → l ≠ [] → (l.head? ≠ some 48 → numL (digitsVal l) = l ∧ 1 ≤ digitsVal l) := by
  refine snoc_ind (p := fun l => AllDigits l → l ≠ [] → (l.head? ≠ some 48 → numL (digitsVal l) = l ∧ 1 ≤ digitsVal l)) (fun _ z => absurd rfl z) (fun l c ih h _ hd => ?_) l
  have y := h c (List.mem_append_right _ List.mem_cons_self)
  have dl : AllDigits l := fun x hx => h x (List.mem_append_left _ hx)
  rw [dv_snoc]
  by_cases e : l = []
  · subst e
    have hc : c ≠ 48 := fun z => hd (by rw [z]; rfl)
    have e0 : digitsVal [] * 10 + (c - 48) = c - 48 := by
      show 0 * 10 + (c - 48) = c - 48
      omega
    rw [e0, numL_lt (by omega), show 48 + (c - 48) = c by omega]
    exact ⟨rfl, by omega⟩
  · have hd' : l.head? ≠ some 48 := fun z => hd (by
      cases l with
      | nil => exact absurd rfl e
      | cons a r => exact z)
    obtain ⟨i1, i2⟩ := ih dl e hd'
    rw [numL_step (by omega), show (digitsVal l * 10 + (c - 48)) / 10 = digitsVal l by omega, show 48 + (digitsVal l * 10 + (c - 48)) % 10 = c by omega, i1]
    exact ⟨rfl, by omega⟩
theorem num_head (n : Nat) : 1 < (numL n).length → (numL n).head? ≠ some 48 := by
  induction n using Nat.strongRecOn with
  | _ n ih =>
    intro h
    by_cases c : n < 10
    · rw [numL_lt c] at h
      exact absurd h (by simp)
    · rw [numL_step (by omega)]
      have hh : (numL (n / 10) ++ [48 + n % 10]).head? = (numL (n / 10)).head? := by
        cases e : numL (n / 10) with
        | nil => exact absurd e (numL_ne _)
        | cons a r => rfl
      rw [hh]
      by_cases c2 : n / 10 < 10
      · rw [numL_lt c2]
        intro z
        have z2 : 48 + n / 10 = 48 := Option.some.inj z
        omega
      · refine ih (n / 10) (by omega) ?_
        rw [numL_step (by omega), List.length_append]
        have := List.length_pos_iff.mpr (numL_ne (n / 10 / 10))
        show 1 < _ + 1
        omega
/-- written again it is the very text just where it has no needless nought -/
theorem num_fig {l : List Nat} (h : AllDigits l) (ne : l ≠ []) : numL (digitsVal l) = l ↔ leadB l = false := by
  unfold leadB
  refine ⟨fun e => ?_, fun e => ?_⟩
  · by_cases c : 1 < l.length
    · have z := num_head (digitsVal l) (by rw [e]; exact c)
      rw [e] at z
      rw [decide_eq_false z]
      rfl
    · rw [decide_eq_false c, Bool.and_false]
  · by_cases c : l.head? = some 48
    · rw [decide_eq_true c, Bool.true_and, decide_eq_false_iff_not] at e
      cases l with
      | nil => exact absurd rfl ne
      | cons a r =>
        cases r with
        | nil =>
          have ea : a = 48 := Option.some.inj c
          rw [ea]
          decide
        | cons b r => exact absurd (by simp) e
    · exact (num_self l h ne c).1
theorem dv_zero {l : List Nat} (h : AllDigits l) (ne : l ≠ []) (hl : leadB l = false) : digitsVal l = 0 ↔ l = [48] := by
  have z := (num_fig h ne).mpr hl
  refine ⟨fun e => ?_, fun e => by rw [e]; decide⟩
  rw [e] at z
  rw [← z]
  decide
/-- the signs of a whole number -/
def zL (n : Int) : List Nat := if n < 0 then 45 :: numL n.natAbs else numL n.natAbs
theorem tl_int (n : Int) : tl (Str.ofString (toString n)) = zL n := by
  cases n with
  | ofNat m =>
    have z := tl_num m
    rw [show ((m : Nat) : Int) = Int.ofNat m from rfl] at z
    rw [z]
    unfold zL
    have h0 : ¬ Int.ofNat m < 0 := Int.not_lt.mpr (Int.natCast_nonneg m)
    rw [if_neg h0]
    rfl
  | negSucc m =>
    have e : toString (Int.negSucc m) = "-" ++ toString (((m + 1 : Nat) : Nat) : Int) := rfl
    rw [e, tl_ofString, String.toList_append, List.map_append, ← tl_ofString (toString (((m + 1 : Nat) : Nat) : Int)), tl_num]
    unfold zL
    rw [if_pos (by omega)]
    rfl
def ngB (l : List Nat) : Bool := decide (l.head? = some 45)
def bare (l : List Nat) : List Nat := if ngB l = true then l.tail else l
def sg (b : Bool) (n : Nat) : Int := if b = true then -(n : Int) else (n : Int)
/-- the fraction that a text writes -/
def rdL (ng : Bool) : List (Option Nat) → Option (Int × Int)
  | [some n] => if (ng && decide (n = 0)) = true then none else some (sg ng n, 1)
  | [some n, some d] => if (decide (d < 2) || decide (Nat.gcd n d ≠ 1) || (ng && decide (n = 0))) = true then none else some (sg ng n, (d : Int))
  | _ => none
def rd (l : List Nat) : Option (Int × Int) := rdL (ngB l) ((spl [47] 0 [] (bare l)).map figs)
/-- with its sign ahead -/
def lead (ng : Bool) (u : List Nat) : List Nat := if ng = true then 45 :: u else u
theorem lead_bare (l : List Nat) : lead (ngB l) (bare l) = l := by
  unfold lead bare ngB
  by_cases c : l.head? = some 45
  · rw [decide_eq_true c, if_pos rfl, if_pos rfl]
    cases l with
    | nil => cases c
    | cons a r =>
      have : a = 45 := Option.some.inj c
      rw [this]
      rfl
  · rw [decide_eq_false c]
    rfl
theorem cut47 (u : List Nat) : 47 ∉ u ∨ ∃ a b, u = a ++ 47 :: b ∧ 47 ∉ a := by
  induction u with
  | nil => exact .inl List.not_mem_nil
  | cons c r ih =>
    by_cases e : c = 47
    · exact .inr ⟨[], r, by rw [e]; rfl, List.not_mem_nil⟩
    · rcases ih with h | ⟨a, b, rfl, h⟩
      · exact .inl fun z => by
          rcases List.mem_cons.mp z with z | z
          · exact e z.symm
          · exact h z
      · refine .inr ⟨c :: a, b, rfl, fun z => ?_⟩
        rcases List.mem_cons.mp z with z | z
        · exact e z.symm
        · exact h z
theorem spl47_one {u : List Nat} (h : 47 ∉ u) : spl [47] 0 [] u = [u] := by
  have z := spl_last1 (S := []) (acc := []) h
  rw [List.nil_append] at z
  exact z
theorem spl47_cut {a b : List Nat} (h : 47 ∉ a) : spl [47] 0 [] (a ++ 47 :: b) = a :: spl [47] 0 [] b := by
  have z := spl_part1 (S := []) (acc := []) (rest := b) h
  rw [List.nil_append] at z
  exact z
theorem par47_none {u : List Nat} (h : 47 ∉ u) : par [47] [] u = none := par_none1 (S := []) h
theorem par47_cut {a b : List Nat} (h : 47 ∉ a) : par [47] [] (a ++ 47 :: b) = some (a, b) := by
  have z := par_part1 (S := []) (acc := []) (rest := b) h
  rw [List.nil_append] at z
  exact z
theorem spl_pos (u : List Nat) : 1 ≤ (spl [47] 0 [] u).length := by
  rcases cut47 u with h | ⟨a, b, rfl, h⟩
  · rw [spl47_one h]
    exact Nat.le_refl 1
  · rw [spl47_cut h]
    simp
theorem dig_no {l : List Nat} (h : AllDigits l) {c : Nat} (hc : c < 48 ∨ 57 < c) : c ∉ l := fun m => by
  have z := h c m
  omega
theorem zsg_nat {ng : Bool} {n : Nat} {u : List Nat} (hd : AllDigits u) (ne : u ≠ []) : zL (sg ng n) = lead ng u ↔ numL n = u ∧ ¬ (ng = true ∧ n = 0) := by
  cases ng with
  | false =>
    show zL (n : Int) = u ↔ _
    unfold zL
    rw [if_neg (by omega), Int.natAbs_natCast]
    exact ⟨fun e => ⟨e, fun z => Bool.noConfusion z.1⟩, fun e => e.1⟩
  | true =>
    show zL (-(n : Int)) = 45 :: u ↔ _
    unfold zL
    by_cases c : n = 0
    · subst c
      refine ⟨fun e => ?_, fun e => absurd ⟨rfl, rfl⟩ e.2⟩
      exfalso
      rw [if_neg (by decide)] at e
      have z : numL 0 = [48] := by decide
      rw [show (-((0 : Nat) : Int)).natAbs = 0 from rfl, z] at e
      have z2 := (List.cons.inj e).1
      exact absurd z2 (by decide)
    · rw [if_pos (by omega), show (-(n : Int)).natAbs = n by omega]
      exact ⟨fun e => ⟨(List.cons.inj e).2, fun z => c z.2⟩, fun e => by rw [e.1]⟩
/-- no stroke -/
theorem rd_one {l : List Nat} (h : 47 ∉ bare l) (w : wokB (bare l) = true) : (zL (sg (ngB l) (digitsVal (bare l))) = l → rd l = some (sg (ngB l) (digitsVal (bare l)), 1)) ∧ (zL (sg (ngB l) (digitsVal (bare l))) ≠ l → rd l = none) := by
  obtain ⟨w1, w2, w3⟩ := wokB_iff.mp w
  have ne : bare l ≠ [] := List.length_pos_iff.mp w1
  have er : rd l = rdL (ngB l) [figs (bare l)] := by
    unfold rd
    rw [spl47_one h]
    rfl
  have z := zsg_nat (ng := ngB l) (n := digitsVal (bare l)) w3 ne
  rw [lead_bare, num_fig w3 ne] at z
  rw [er]
  unfold figs
  rw [w, Bool.true_and]
  constructor
  · intro e
    obtain ⟨z1, z2⟩ := z.mp e
    rw [z1]
    show (if (ngB l && decide (digitsVal (bare l) = 0)) = true then none else _) = _
    rw [if_neg fun y => z2 (by rw [Bool.and_eq_true, decide_eq_true_iff] at y; exact y)]
  · intro e
    cases c : leadB (bare l) with
    | true => rfl
    | false =>
      show (if (ngB l && decide (digitsVal (bare l) = 0)) = true then none else _) = _
      rw [if_pos]
      rw [Bool.and_eq_true, decide_eq_true_iff]
      exact Classical.byContradiction fun y => e (z.mpr ⟨c, y⟩)
theorem rd_one_no {l : List Nat} (h : 47 ∉ bare l) (w : wokB (bare l) = false) : rd l = none := by
  unfold rd
  rw [spl47_one h]
  show rdL (ngB l) [figs (bare l)] = none
  unfold figs
  rw [w]
  rfl
theorem rd_two_no {l a b : List Nat} (e : bare l = a ++ 47 :: b) (h : 47 ∉ a) (w : wokB a = false ∨ wokB b = false) : rd l = none := by
  unfold rd
  rw [e, spl47_cut h]
  rcases cut47 b with hb | ⟨b1, b2, rfl, hb⟩
  · rw [spl47_one hb]
    show rdL (ngB l) [figs a, figs b] = none
    rcases w with w | w
    · unfold figs
      rw [w]
      rfl
    · unfold figs
      rw [w]
      cases (if (wokB a && !leadB a) = true then some (digitsVal a) else none) <;> rfl
  · rw [spl47_cut hb]
    have p := spl_pos b2
    cases es : spl [47] 0 [] b2 with
    | nil =>
      rw [es] at p
      exact absurd p (by decide)
    | cons x r =>
      show rdL (ngB l) (figs a :: figs b1 :: figs x :: _) = none
      cases figs a <;> cases figs b1 <;> rfl
theorem split47 {a b c d : List Nat} (ha : 47 ∉ a) (hc : 47 ∉ c) (e : a ++ 47 :: b = c ++ 47 :: d) : a = c ∧ b = d := by
  have z1 := par47_cut (b := b) ha
  rw [e, par47_cut hc] at z1
  have z2 := Option.some.inj z1
  exact ⟨(Prod.mk.inj z2).1.symm, (Prod.mk.inj z2).2.symm⟩
theorem lead_app (ng : Bool) (a b : List Nat) : lead ng (a ++ b) = lead ng a ++ b := by
  cases ng <;> rfl
theorem zL_no (n : Int) : 47 ∉ zL n := by
  unfold zL
  split
  · intro z
    rcases List.mem_cons.mp z with z | z
    · exact absurd z (by decide)
    · exact numL_free (.inl (by decide)) z
  · exact numL_free (.inl (by decide))
theorem lead_no {ng : Bool} {a : List Nat} (h : 47 ∉ a) : 47 ∉ lead ng a := by
  cases ng with
  | false => exact h
  | true =>
    intro z
    rcases List.mem_cons.mp z with z | z
    · exact absurd z (by decide)
    · exact h z
/-- how a fraction is written -/
def fL (N : Int × Int) : List Nat := if N.2 = 1 then zL N.1 else zL N.1 ++ 47 :: zL N.2
/-- a stroke -/
theorem rd_two {l a b : List Nat} (e : bare l = a ++ 47 :: b) (wa : wokB a = true) (wb : wokB b = true) {p q : Nat} (d0 : digitsVal b ≠ 0) (hp : p * Nat.gcd (digitsVal a) (digitsVal b) = digitsVal a) (hq : q * Nat.gcd (digitsVal a) (digitsVal b) = digitsVal b) :
    (fL (sg (ngB l) p, (q : Int)) = l → rd l = some (sg (ngB l) p, (q : Int))) ∧ (fL (sg (ngB l) p, (q : Int)) ≠ l → rd l = none) := by
  obtain ⟨a1, a2, a3⟩ := wokB_iff.mp wa
  obtain ⟨b1, b2, b3⟩ := wokB_iff.mp wb
  have na : a ≠ [] := List.length_pos_iff.mp a1
  have nb : b ≠ [] := List.length_pos_iff.mp b1
  have ha : 47 ∉ a := dig_no a3 (.inl (by decide))
  have hb : 47 ∉ b := dig_no b3 (.inl (by decide))
  have el : l = lead (ngB l) a ++ 47 :: b := by
    have z := lead_bare l
    rw [e, lead_app] at z
    exact z.symm
  have er : rd l = rdL (ngB l) [figs a, figs b] := by
    unfold rd
    rw [e, spl47_cut ha, spl47_one hb]
    rfl
  have g0 : 0 < Nat.gcd (digitsVal a) (digitsVal b) := Nat.gcd_pos_of_pos_right _ (by omega)
  have q0 : 0 < q := Nat.pos_of_ne_zero fun z => by
    rw [z, Nat.zero_mul] at hq
    exact d0 hq.symm
  have eqv : fL (sg (ngB l) p, (q : Int)) = l ↔ leadB a = false ∧ leadB b = false ∧ ¬ digitsVal b < 2 ∧ Nat.gcd (digitsVal a) (digitsVal b) = 1 ∧ ¬ (ngB l = true ∧ digitsVal a = 0) := by
    constructor
    · intro f
      unfold fL at f
      by_cases c : (q : Int) = 1
      · rw [if_pos c] at f
        exfalso
        have z := zL_no (sg (ngB l) p)
        have f' : zL (sg (ngB l) p) = l := f
        rw [f', el] at z
        exact z (List.mem_append_right _ List.mem_cons_self)
      · rw [if_neg c] at f
        have f' : zL (sg (ngB l) p) ++ 47 :: zL (q : Int) = lead (ngB l) a ++ 47 :: b := f.trans el
        obtain ⟨f1, f2⟩ := split47 (zL_no _) (lead_no ha) f'
        obtain ⟨f3, f4⟩ := (zsg_nat a3 na).mp f1
        have f5 : numL q = b := by
          unfold zL at f2
          rw [if_neg (by omega), Int.natAbs_natCast] at f2
          exact f2
        have v1 : p = digitsVal a := by rw [← f3, numL_val]
        have v2 : q = digitsVal b := by rw [← f5, numL_val]
        have g1 : Nat.gcd (digitsVal a) (digitsVal b) = 1 := by
          rw [← v2] at hq
          have z : q * Nat.gcd (digitsVal a) q = q * 1 := by rw [Nat.mul_one]; exact hq
          have z2 := Nat.eq_of_mul_eq_mul_left q0 z
          rw [← v2]
          exact z2
        refine ⟨(num_fig a3 na).mp (by rw [← v1]; exact f3), (num_fig b3 nb).mp (by rw [← v2]; exact f5), by omega, g1, ?_⟩
        rw [← v1]
        exact f4
    · rintro ⟨c1, c2, c3, c4, c5⟩
      rw [c4, Nat.mul_one] at hp hq
      subst hp hq
      unfold fL
      rw [if_neg (by show ¬ (digitsVal b : Int) = 1; omega)]
      show zL (sg (ngB l) (digitsVal a)) ++ 47 :: zL (digitsVal b : Int) = l
      rw [(zsg_nat a3 na).mpr ⟨(num_fig a3 na).mpr c1, c5⟩]
      have z : zL (digitsVal b : Int) = b := by
        unfold zL
        rw [if_neg (by omega), Int.natAbs_natCast]
        exact (num_fig b3 nb).mpr c2
      rw [z]
      exact el.symm
  rw [er]
  constructor
  · intro f
    obtain ⟨c1, c2, c3, c4, c5⟩ := eqv.mp f
    have hp' := hp
    have hq' := hq
    rw [c4, Nat.mul_one] at hp' hq'
    unfold figs
    rw [wa, wb, c1, c2]
    show (if (decide (digitsVal b < 2) || decide (Nat.gcd (digitsVal a) (digitsVal b) ≠ 1) || (ngB l && decide (digitsVal a = 0))) = true then none else _) = _
    rw [if_neg, hp', hq']
    rw [Bool.or_eq_true, Bool.or_eq_true, Bool.and_eq_true, decide_eq_true_iff, decide_eq_true_iff, decide_eq_true_iff]
    rintro ((z | z) | z)
    · exact c3 z
    · exact z c4
    · exact c5 z
  · intro f
    unfold figs
    rw [wa, wb]
    cases c1 : leadB a with
    | true => cases leadB b <;> rfl
    | false =>
      cases c2 : leadB b with
      | true => rfl
      | false =>
        show (if (decide (digitsVal b < 2) || decide (Nat.gcd (digitsVal a) (digitsVal b) ≠ 1) || (ngB l && decide (digitsVal a = 0))) = true then none else _) = _
        rw [if_pos]
        rw [Bool.or_eq_true, Bool.or_eq_true, Bool.and_eq_true, decide_eq_true_iff, decide_eq_true_iff, decide_eq_true_iff]
        exact Classical.byContradiction fun y => f (eqv.mpr ⟨c1, c2, fun z => y (.inl (.inl z)), Classical.byContradiction fun z => y (.inl (.inr z)), fun z => y (.inr z)⟩)
theorem rd_two_0 {l a b : List Nat} (e : bare l = a ++ 47 :: b) (h : 47 ∉ a) (wb : wokB b = true) (d0 : digitsVal b = 0) : rd l = none := by
  by_cases wa : wokB a = true
  · obtain ⟨b1, b2, b3⟩ := wokB_iff.mp wb
    unfold rd
    rw [e, spl47_cut h, spl47_one (dig_no b3 (.inl (by decide)))]
    show rdL (ngB l) [figs a, figs b] = none
    unfold figs
    rw [wa, wb]
    cases leadB a with
    | true => cases leadB b <;> rfl
    | false =>
      cases leadB b with
      | true => rfl
      | false =>
        show (if (decide (digitsVal b < 2) || decide (Nat.gcd (digitsVal a) (digitsVal b) ≠ 1) || (ngB l && decide (digitsVal a = 0))) = true then none else _) = _
        rw [if_pos]
        rw [d0]
        rfl
  · exact rd_two_no e h (.inl (Bool.eq_false_iff.mpr wa))
end SS
namespace SS
open PySem PySem.Spec PyProof.Rows L2 TL PySem.StrLaws
section
variable {X : Cx}
/-- x.rsplit(sep, k) -/
theorem mt_rsplitMax : MtR X "str.rsplit" (fun x xs H Q => ∃ (a b : Str) (k : Int), x = .str a ∧ xs = [.str b, .int k] ∧ (b.length == 0) = false ∧ -(2 ^ 63) ≤ k ∧ k < 2 ^ 63 ∧ a.length + 2 ≤ sizeLine ∧ rNewStrs (Txt.rsplitMax a b k) H Q) := by
  intro pins s σ H x xs v us Q I rx rs h
  obtain ⟨a, b, k, rfl, rfl, hb, k1, k2, hz, h⟩ := h
  obtain ⟨t, rfl⟩ := rx
  cases rs with
  | cons r1 rs =>
    cases rs with
    | cons r2 rs =>
      cases rs
      obtain ⟨u, rfl⟩ := r1
      obtain ⟨v, rfl⟩ := r2
      have e1 : decide (k < -(2 ^ 63 : Int)) = false := decide_eq_false (by omega)
      have e2 : decide (k ≥ 2 ^ 63) = false := decide_eq_false (by omega)
      have hk : (decide (k < -(2 ^ 63 : Int)) || decide (k ≥ 2 ^ 63)) = false := by rw [e1, e2, Bool.or_false]
      have hn : (Builtin.Str.partsBetween a (Builtin.Str.occurrencesFromRight a b (limitOf a k)) b.length).length ≤ sizeLine := by
        have e1 := StrLaws.occR_length_le_len a b (limitOf a k)
        rw [length_partsBetween]; omega
      have hl : (Txt.rsplitMax a b k).length ≤ sizeLine := by
        unfold Txt.rsplitMax
        split
        · show 1 ≤ sizeLine; omega
        · split
          · show 1 ≤ sizeLine; omega
          · exact hn
      cases h1 : (decide (a.length < b.length) || decide (Builtin.Str.strKind a < Builtin.Str.strKind b))
      · cases hf : (Builtin.Str.occurrencesFromRight a b (limitOf a k)).isEmpty
        · refine call_meets PySem.F.slot_str_rsplit (typeIs_str _ _ _) PySem.F.entry_str_rsplit (PySem.F.args_str_rsplit_3 _ _ _) (meets_str_rsplit_sep_max a b k t u v hk h1 hb hf (by omega) hn) ?_
          show EP X pins σ Q (.ref s.heap.objs.size) { s with toks := _, heap := s.heap.push { cls := .type "list", data := .seq (strsFrom s.toks (Builtin.Str.partsBetween a (Builtin.Str.occurrencesFromRight a b (limitOf a k)) b.length)).toArray } }
          rw [strsFrom_eq]
          exact laid_strs (ys := Txt.rsplitMax a b k) I ((numbered_texts _ _).trans ((if_neg (ne_true_of_eq_false h1)).trans (if_neg (ne_true_of_eq_false hf))).symm) hl h
        · refine call_meets PySem.F.slot_str_rsplit (typeIs_str _ _ _) PySem.F.entry_str_rsplit (PySem.F.args_str_rsplit_3 _ _ _) (meets_str_rsplit_max_not_found a b k t u v hk h1 hb hf) ?_
          exact laid_strs (l := [(a, t)]) (ys := Txt.rsplitMax a b k) (k := s.toks) I ((if_neg (ne_true_of_eq_false h1)).trans (if_pos hf)).symm hl h
      · refine call_meets PySem.F.slot_str_rsplit (typeIs_str _ _ _) PySem.F.entry_str_rsplit (PySem.F.args_str_rsplit_3 _ _ _) (meets_str_rsplit_max_cannot_occur a b k t u v hk h1) ?_
        exact laid_strs (l := [(a, t)]) (ys := Txt.rsplitMax a b k) (k := s.toks) I (if_pos h1).symm hl h
end
/-! ### what it tells -/
open Builtin.Str in
def stepR (s sub : Str) (limit : Nat) (st : Array Nat × Nat) (k : Nat) : Array Nat × Nat :=
  if (st.fst.size < limit ∧ s.length - k + sub.length ≤ st.snd) ∧ subAt s sub (s.length - k) = true then (st.fst.push (s.length - k), s.length - k) else st
theorem occR_fold (s sub : Str) (limit : Nat) : ∀ (l : List Nat) (st : Array Nat × Nat), (forIn l st (occRBody s sub limit)).run = l.foldl (stepR s sub limit) st
  | [], st => rfl
  | a :: l, st => by
    rw [List.forIn_cons, List.foldl_cons]
    unfold occRBody
    split
    · rename_i hc
      have e : stepR s sub limit st a = (st.fst.push (s.length - a), s.length - a) := if_pos hc
      rw [e]
      exact occR_fold s sub limit l _
    · rename_i hc
      have e : stepR s sub limit st a = st := if_neg hc
      rw [e]
      exact occR_fold s sub limit l _
theorem stepR_skip {s sub : Str} {limit : Nat} : ∀ (l : List Nat) (st : Array Nat × Nat), (∀ k ∈ l, Builtin.Str.subAt s sub (s.length - k) = false) → l.foldl (stepR s sub limit) st = st
  | [], _, _ => rfl
  | a :: l, st, h => by
    rw [List.foldl_cons]
    have e : stepR s sub limit st a = st := if_neg fun z => by
      rw [h a List.mem_cons_self] at z
      cases z.2
    rw [e]
    exact stepR_skip l st fun k hk => h k (List.mem_cons_of_mem _ hk)
theorem stepR_full {s sub : Str} {limit : Nat} : ∀ (l : List Nat) (st : Array Nat × Nat), limit ≤ st.fst.size → l.foldl (stepR s sub limit) st = st
  | [], _, _ => rfl
  | a :: l, st, h => by
    rw [List.foldl_cons]
    have e : stepR s sub limit st a = st := if_neg fun z => by
      have := z.1.1
      omega
    rw [e]
    exact stepR_full l st h
theorem tl_blank : tl (" " : Str) = [32] := by decide
theorem len_blank : (" " : Str).length = 1 := by decide
/-- where the blanks stand -/
theorem blank_at (x : Str) (i : Nat) : Builtin.Str.subAt x " " i = true ↔ (tl x)[i]? = some 32 := by
  have z := at_iff (x := x) (y := " ") (by rw [tl_blank]; simp) i
  rw [tl_blank] at z
  have e : pre [32] ((tl x).drop i) = true ↔ (tl x)[i]? = some 32 := by
    unfold pre
    rw [beq_iff_eq, ← List.head?_drop]
    cases (tl x).drop i with
    | nil => exact ⟨(fun z => by cases z), (fun z => by cases z)⟩
    | cons a r =>
      show (a :: r.take 0) = [32] ↔ some a = some 32
      rw [List.take_zero]
      exact ⟨fun z => by rw [(List.cons.inj z).1], fun z => by rw [Option.some.inj z]⟩
  rw [← e, ← z]
  refine ⟨fun h => ⟨?_, h⟩, fun h => h.2⟩
  have sz := subAt_size h
  rw [len_blank] at sz ⊢
  omega
theorem rsplit_three {x : Str} {a b c : List Nat} (e : tl x = a ++ 32 :: (b ++ 32 :: c)) (hb : 32 ∉ b) (hc : 32 ∉ c) : (Txt.rsplitMax x " " 2).map tl = [a, b, c] := by
  have n : x.length = a.length + b.length + c.length + 2 := by
    rw [len_tl, e, List.length_append, List.length_cons, List.length_append, List.length_cons]
    omega
  have g1 : ∀ i, i < a.length → (tl x)[i]? = a[i]? := fun i hi => by
    rw [e, List.getElem?_append_left hi]
  have g2 : (tl x)[a.length]? = some 32 := by
    rw [e, List.getElem?_append_right (Nat.le_refl _), Nat.sub_self]
    rfl
  have g3 : ∀ i, i < b.length → (tl x)[a.length + 1 + i]? = b[i]? := fun i hi => by
    rw [e, List.getElem?_append_right (by omega), show a.length + 1 + i - a.length = i + 1 by omega, List.getElem?_cons_succ, List.getElem?_append_left hi]
  have g4 : (tl x)[a.length + 1 + b.length]? = some 32 := by
    rw [e, List.getElem?_append_right (by omega), show a.length + 1 + b.length - a.length = b.length + 1 by omega, List.getElem?_cons_succ, List.getElem?_append_right (Nat.le_refl _), Nat.sub_self]
    rfl
  have g5 : ∀ i, (tl x)[a.length + 1 + b.length + 1 + i]? = c[i]? := fun i => by
    rw [e, List.getElem?_append_right (by omega), show a.length + 1 + b.length + 1 + i - a.length = (b.length + 1 + i) + 1 by omega, List.getElem?_cons_succ, List.getElem?_append_right (by omega), show b.length + 1 + i - b.length = i + 1 by omega, List.getElem?_cons_succ]
  have occ : Builtin.Str.occurrencesFromRight x " " 2 = [a.length, a.length + 1 + b.length] := by
    rw [occR_eq, occR_fold]
    have er : List.range' 0 (x.length + 1) = List.range' 0 (c.length + 1) ++ ([c.length + 1] ++ (List.range' (c.length + 2) b.length ++ ([c.length + 2 + b.length] ++ List.range' (c.length + 3 + b.length) a.length))) := by
      have r1 : [c.length + 2 + b.length] ++ List.range' (c.length + 3 + b.length) a.length = List.range' (c.length + 2 + b.length) (1 + a.length) := by
        rw [← List.range'_append_1]
        rw [show c.length + 2 + b.length + 1 = c.length + 3 + b.length by omega]
        rfl
      have r2 : [c.length + 1] ++ List.range' (c.length + 2) (b.length + (1 + a.length)) = List.range' (c.length + 1) (1 + (b.length + (1 + a.length))) := by
        exact List.range'_append_1 (s := c.length + 1) (m := 1) (n := b.length + (1 + a.length))
      rw [r1, List.range'_append_1, r2]
      have r3 := List.range'_append_1 (s := 0) (m := c.length + 1) (n := 1 + (b.length + (1 + a.length)))
      rw [Nat.zero_add] at r3
      rw [r3, n]
      congr 1
      omega
    rw [er, List.foldl_append, stepR_skip (List.range' 0 (c.length + 1)), List.foldl_append]
    · have s1 : [c.length + 1].foldl (stepR x " " 2) (#[], x.length) = (#[a.length + 1 + b.length], a.length + 1 + b.length) := by
        show stepR x " " 2 (#[], x.length) (c.length + 1) = _
        have ei : x.length - (c.length + 1) = a.length + 1 + b.length := by omega
        unfold stepR
        rw [ei, len_blank]
        rw [if_pos ⟨⟨by show 0 < 2; decide, by show a.length + 1 + b.length + 1 ≤ x.length; omega⟩, (blank_at x _).mpr g4⟩]
        rfl
      rw [s1, List.foldl_append, stepR_skip (List.range' (c.length + 2) b.length), List.foldl_append]
      · have s2 : [c.length + 2 + b.length].foldl (stepR x " " 2) (#[a.length + 1 + b.length], a.length + 1 + b.length) = (#[a.length + 1 + b.length, a.length], a.length) := by
          show stepR x " " 2 (#[a.length + 1 + b.length], a.length + 1 + b.length) (c.length + 2 + b.length) = _
          have ei : x.length - (c.length + 2 + b.length) = a.length := by omega
          unfold stepR
          rw [ei, len_blank]
          rw [if_pos ⟨⟨by show 1 < 2; decide, by show a.length + 1 ≤ a.length + 1 + b.length; omega⟩, (blank_at x _).mpr g2⟩]
          rfl
        rw [s2, stepR_full _ _ (Nat.le_refl 2)]
        rfl
      · intro k hk
        rw [List.mem_range'_1] at hk
        obtain ⟨j, hj, ej⟩ : ∃ j, j < b.length ∧ x.length - k = a.length + 1 + j := ⟨b.length - 1 - (k - (c.length + 2)), by omega, by omega⟩
        refine Bool.eq_false_iff.mpr fun z => ?_
        have z2 := (blank_at x _).mp z
        rw [ej, g3 j hj] at z2
        exact hb (List.mem_of_getElem? z2)
    · intro k hk
      rw [List.mem_range'_1] at hk
      obtain ⟨j, ej⟩ : ∃ j, x.length - k = a.length + 1 + b.length + 1 + j := ⟨c.length - k, by omega⟩
      refine Bool.eq_false_iff.mpr fun z => ?_
      have z2 := (blank_at x _).mp z
      rw [ej, g5 j] at z2
      exact hc (List.mem_of_getElem? z2)
  unfold Txt.rsplitMax
  have el : limitOf x 2 = 2 := rfl
  rw [if_neg, el, occ, if_neg (by simp), partsBetween_eq]
  · show [tl (Builtin.Str.strSub x 0 a.length), tl (Builtin.Str.strSub x (a.length + 1) (a.length + 1 + b.length)), tl (Builtin.Str.strSub x (a.length + 1 + b.length + 1) x.length)] = [a, b, c]
    rw [tl_strSub, tl_strSub, tl_strSub_end]
    congr 1
    · rw [List.drop_zero, Nat.sub_zero, e, List.take_left]
    · congr 1
      · rw [e, show a.length + 1 = a.length + 1 from rfl, List.drop_append, List.drop_of_length_le (by omega), show a.length + 1 - a.length = 1 by omega]
        show (([] : List Nat) ++ (b ++ 32 :: c)).take _ = b
        rw [List.nil_append, show a.length + 1 + b.length - (a.length + 1) = b.length by omega, List.take_left]
      · congr 1
        rw [e, show a.length + 1 + b.length + 1 = (a ++ 32 :: (b ++ [32])).length by simp; omega]
        rw [show a ++ 32 :: (b ++ 32 :: c) = (a ++ 32 :: (b ++ [32])) ++ c by simp, List.drop_left]
  · rw [decide_eq_false (show ¬ x.length < (" " : Str).length by rw [len_blank]; omega), decide_eq_false (kind_ok (by decide +kernel))]
    decide
end SS
namespace SS
open PySem PySem.Spec PyProof.Rows L2
/-! ### the least of texts -/
theorem nltT : ∀ (a b c : List Nat), ltCps b a = false → ltCps c b = false → ltCps c a = false
  | [], _, [], _, _ => rfl
  | [], [], _ :: _, _, _ => rfl
  | [], _ :: _, _ :: _, _, _ => rfl
  | a :: as, [], c, h, _ => by simp [ltCps] at h
  | a :: as, b :: bs, [], _, h => by simp [ltCps] at h
  | a :: as, b :: bs, c :: cs, h1, h2 => by
    have ih := nltT as bs cs
    simp only [ltCps, Bool.or_eq_false_iff, decide_eq_false_iff_not, Bool.and_eq_false_imp, beq_iff_eq] at h1 h2 ⊢
    refine ⟨by omega, fun e => ?_⟩
    have e1 : b = a := by omega
    have e2 : c = b := by omega
    exact ih (h1.2 e1) (h2.2 e2)
theorem nltA : ∀ (a b : List Nat), ltCps b a = false → ltCps a b = false → a = b
  | [], [], _, _ => rfl
  | [], b :: bs, _, h => by simp [ltCps] at h
  | a :: as, [], h, _ => by simp [ltCps] at h
  | a :: as, b :: bs, h1, h2 => by
    have ih := nltA as bs
    simp only [ltCps, Bool.or_eq_false_iff, decide_eq_false_iff_not, Bool.and_eq_false_imp, beq_iff_eq] at h1 h2
    have e : a = b := by omega
    rw [e, ih (h1.2 e.symm) (h2.2 e)]
theorem ltIrr : ∀ (a : List Nat), ltCps a a = false
  | [] => rfl
  | a :: as => by simp [ltCps, ltIrr as]
theorem ltNot : ∀ (a b : List Nat), ltCps a b = true → ltCps b a = false
  | [], [], h => by simp [ltCps] at h
  | [], _ :: _, _ => rfl
  | _ :: _, [], h => by simp [ltCps] at h
  | a :: as, b :: bs, h => by
    have ih := ltNot as bs
    simp only [ltCps, Bool.or_eq_true, decide_eq_true_eq, Bool.and_eq_true, beq_iff_eq, Bool.or_eq_false_iff, decide_eq_false_iff_not, Bool.and_eq_false_imp] at h ⊢
    rcases h with h | h
    · exact ⟨by omega, fun e => by omega⟩
    · exact ⟨by omega, fun _ => ih h.2⟩
def leS (a b : Str) : Prop := ltCps b.cps.toList a.cps.toList = false
theorem leS_anti {a b : Str} (h1 : leS a b) (h2 : leS b a) : a = b := by
  have e := nltA _ _ h1 h2
  cases a
  cases b
  congr 1
  exact Array.toList_inj.mp e
theorem best_txt (t : Nat → Str) : ∀ k, argBest (fun i j => ltCps (t i).cps.toList (t j).cps.toList) k ≤ k ∧ ∀ j, j ≤ k → leS (t (argBest (fun i j => ltCps (t i).cps.toList (t j).cps.toList) k)) (t j)
  | 0 => ⟨Nat.le_refl _, fun j hj => by
      rw [show j = 0 by omega]
      exact ltIrr _⟩
  | k + 1 => by
    obtain ⟨a, b⟩ := best_txt t k
    simp only [argBest]
    split
    · rename_i c
      refine ⟨Nat.le_refl _, fun j hj => ?_⟩
      rcases Nat.lt_or_ge j (k + 1) with z | z
      · exact nltT _ _ _ (ltNot _ _ c) (b j (by omega))
      · rw [show j = k + 1 by omega]
        exact ltIrr _
    · rename_i c
      refine ⟨by omega, fun j hj => ?_⟩
      rcases Nat.lt_or_ge j (k + 1) with z | z
      · exact b j (by omega)
      · rw [show j = k + 1 by omega]
        exact Bool.eq_false_iff.mpr c
section
variable {X : Cx}
/-- min(d), d a dict whose keys are texts -/
def rMinT : List V → Hp → VK → Prop := fun vs H Q => ∃ (a : Addr) (kvs : List (Key × V)) (ts : List Str), vs = [V.ref a] ∧ H a = some (.dK kvs) ∧ kvs.map (·.1) = ts.map Sum.inr ∧ ts ≠ [] ∧ ∀ m ∈ ts, (∀ j ∈ ts, leS m j) → Q (.str m) H
theorem cr_minT (hc : X.calm = true) : CallR X (.builtin "min") rMinT := by
  rintro pins s σ H _ us Q I r ⟨a, kvs, ts, rfl, ha, hk, ne, q⟩
  obtain ⟨_, sysOk, es, rel, dof⟩ := dk_of I.hok ha
  obtain ⟨ep, at'⟩ := dof.dictAt
  have isz : a < s.heap.objs.size := by
    obtain ⟨_, _, z, _⟩ := id at'
    exact Heap.lt_size z
  have ks : es.map (·.1) = ts.map Sum.inr := by rw [← KV.keys rel, hk]
  have ln : es.length = ts.length := by simpa using congrArg List.length ks
  have shape : ∀ (i : Nat) (v : Value), (∃ k x, es[i]? = some (k, x) ∧ (mixKind X.prog X.w).is k v = true) → ∃ u, v = Value.str (ts.getD i "") u := by
    rintro i v ⟨k, x, e1, e2⟩
    have e3 : (ts.map Sum.inr)[i]? = some k := by
      rw [← ks, List.getElem?_map, e1]
      rfl
    rw [List.getElem?_map] at e3
    cases e4 : ts[i]? with
    | none =>
      rw [e4] at e3
      cases e3
    | some t =>
      rw [e4] at e3
      cases e3
      have e2 : keyIs (.inr t) v = true := e2
      rcases keyIs_shape e2 with ⟨_, _, z, _⟩ | ⟨y, u, z, e5⟩
      · cases z
      · cases z
        refine ⟨u, ?_⟩
        rw [e5, List.getD_eq_getElem?_getD, e4]
        rfl
  have cmp : CmpOf X.prog X.w X.A.in1 .Lt (fun i v => ∃ k x, es[i]? = some (k, x) ∧ (mixKind X.prog X.w).is k v = true) (fun i j => ltCps (ts.getD i "").cps.toList (ts.getD j "").cps.toList) := by
    intro i j vi vj s' Q' E' hi hj hQ
    obtain ⟨u, rfl⟩ := shape i vi hi
    obtain ⟨u', rfl⟩ := shape j vj hj
    refine lt_str ?_
    rw [show (decide ((ts.getD i "").cps.toList < (ts.getD j "").cps.toList)) = ltCps (ts.getD i "").cps.toList (ts.getD j "").cps.toList from (ltCps_eq _ _).symm]
    exact hQ
  obtain ⟨b1, b2⟩ := best_txt (fun i => ts.getD i "") (es.length - 1)
  have pos : 0 < ts.length := List.length_pos_iff.mpr ne
  rw [Vals.ref1 r]
  refine call_min_walk (wpAny_pyIter_dict (knd := mixKind X.prog X.w) sysOk at' ⟨_, _, _, _, _, _, _, rfl, Walks.dictKeys (knd := mixKind X.prog X.w) (A := X.A.in1) (I.ok.hd hc) s.heap.objs.size a (Nat.ne_of_lt isz) es ep,
    ⟨⟨_, Heap.get?_push_size _ rfl, rfl, rfl⟩, at'.keep fun b u e => Heap.get?_push_of_some _ e⟩, fun b hb => ?_, by omega, cmp, fun v h' tk hP keep => ?_⟩)
  · show b < (s.heap.push _).objs.size
    rw [Heap.size_push]
    rcases List.mem_cons.mp hb with z | z
    · rw [z]
      exact Nat.lt_succ_self _
    · rw [List.mem_singleton.mp z]
      exact Nat.lt_succ_of_lt isz
  · obtain ⟨u, rfl⟩ := shape _ v hP
    refine ⟨.str _, H, I.kept (t' := tk) fun b o e => keep b o (fun z => ?_) (Heap.get?_push_of_some _ e), ⟨u, rfl⟩, q _ ?_ fun t ht => ?_⟩
    · rw [List.mem_singleton.mp z] at e
      exact absurd (Heap.lt_size e) (Nat.lt_irrefl _)
    · have lt : argBest (fun i j => ltCps (ts.getD i "").cps.toList (ts.getD j "").cps.toList) (es.length - 1) < ts.length := by omega
      rw [List.getD_eq_getElem?_getD, List.getElem?_eq_getElem lt]
      exact List.getElem_mem lt
    · obtain ⟨i, il, e⟩ := List.mem_iff_getElem.mp ht
      have e2 : ts.getD i "" = t := by
        rw [List.getD_eq_getElem?_getD, List.getElem?_eq_getElem il, ← e]
        rfl
      rw [← e2]
      exact b2 i (by omega)
end
end SS
namespace SS
open PySem PySem.Spec PyProof.Rows L2
def topS (i : Nat) : Stmt := PySem.Challenge.pw_scopestore_k86_sum_and_row_texts.main.body.getD i (.Pass ⟨0, 0, 0, 0⟩)
abbrev sCd : Stmt := topS 22
abbrev sFo : Stmt := topS 23
abbrev sAre : Stmt := topS 24
abbrev sPlus : Stmt := topS 25
abbrev sTimes : Stmt := topS 26
abbrev sWn : Stmt := topS 30
abbrev sSumOf : Stmt := topS 31
abbrev sFitsU : Stmt := topS 32
abbrev sFtx : Stmt := topS 37
abbrev sTmx : Stmt := topS 38
abbrev sSmx : Stmt := topS 39
abbrev sRdW : Stmt := topS 40
abbrev sRdF : Stmt := topS 41
abbrev sRdT : Stmt := topS 42
abbrev sRdS : Stmt := topS 43
abbrev sRdR : Stmt := topS 44
abbrev sFresh : Stmt := topS 46
abbrev sMixed : Stmt := topS 47
abbrev sFill : Stmt := topS 48
abbrev sTake : Stmt := topS 49
abbrev sSh : Stmt := topS 50
abbrev sFrac : Stmt := topS 51
abbrev sTurned : Stmt := topS 52
abbrev sIsName : Stmt := topS 53
abbrev sSname : Stmt := topS 54
abbrev sNames : Stmt := topS 55
abbrev sNumber : Stmt := topS 56
abbrev sSsum : Stmt := topS 57
abbrev sKind : Stmt := topS 58
abbrev sAnyRow : Stmt := topS 59
abbrev sLFtx : Stmt := topS 60
abbrev sLSmx : Stmt := topS 61
abbrev sLRwx : Stmt := topS 62
abbrev sFigs : Stmt := topS 63
abbrev sRdN : Stmt := topS 64
abbrev sLTerm : Stmt := topS 65
abbrev sRdWs : Stmt := topS 66
abbrev sRdTd : Stmt := topS 67
abbrev sSign : Stmt := topS 68
abbrev sSpoilt : Stmt := topS 69
abbrev sAsked : Stmt := topS 70
abbrev sRewd : Stmt := topS 71
abbrev sGreat : Stmt := topS 72
abbrev sLaw : Stmt := topS 73
end SS
namespace SS
open PySem PySem.Spec PyProof.Rows L2
section
variable {P : Program} {w : World} {K : PySem.W.Frag} {mg : Str → Option Value} {base : Heap}
/-! ### the greatest common divisor -/
def spGcd : Sp := fun vs H Q _ => ∃ a b : Int, vs = [.int a, .int b] ∧ Q (.int ((Int.gcd a b : Nat) : Int)) H
theorem scCd : FnScope ["a", "b"] ["a", "b"] (defScope sCd) := ⟨rfl, rfl, rfl, by decide +kernel, rfl, by decide +kernel, by decide +kernel⟩
theorem ok_cd {f : Addr} {fd : FuncData} {k : Nat} (F : Fun K "common_divisor" "common_divisor" sCd f fd) (ma : mg "abs" = none) : FnOk P w K mg base CX0 (k + 1) f fd ["a", "b"] spGcd := by
  refine F.ok scCd (fun vs H Q E h => ?_) (fun cdv A outer s H vs Q E hr h => ?_)
  · obtain ⟨a, b, rfl, _⟩ := h
    rfl
  · obtain ⟨a, b, rfl, q⟩ := h
    refine ⟨_, pss_cons (ps_par (i := 0) (j := 1) rfl scCd.nd rfl rfl (by decide) rfl rfl
        (pa_cons (pe_callB call_abs (by rfl) ma boot_abs (pa_cons (pv 0) pa_nil)) (pa_cons (pe_callB call_abs (by rfl) ma boot_abs (pa_cons (pv 1) pa_nil)) pa_nil)) rfl)
      (pss_cons (ps_while PassesOwn.never (pt_cmpR op_gt (pv 1) pe_int (nomark _))
        (pss_one (ps_par (i := 0) (j := 1) rfl scCd.nd rfl rfl (by decide) rfl rfl (pa_cons (pv 1) (pa_cons (pe_op op_mod (pv 0) (pv 1)) pa_nil)) rfl)))
      (pss_one (ps_ret (pv 0)))), ?_⟩
    refine ⟨_, rfl, a, rfl, _, rfl, b, rfl, _, _, rfl, ?_⟩
    refine ⟨fun m σ H' => ∃ x y : Int, σ = [some (.int x), some (.int y)] ∧ H' = H ∧ 0 ≤ x ∧ 0 ≤ y ∧ Int.gcd x y = Int.gcd a b ∧ m = y.toNat,
      ⟨_, _, _, rfl, rfl, by split <;> omega, by split <;> omega, gcd_abs a b, rfl⟩, fun m σ H' hW => ?_⟩
    obtain ⟨x, y, rfl, rfl, hx, hy, hg, rfl⟩ := hW
    refine ⟨_, rfl, _, _, rfl, rfl, _, rfl, ite2 (fun e => ?_) (fun e => ?_)⟩
    · have e' : 0 < y := of_decide_eq_true e
      refine ⟨fun σ' H1 => ∃ x' y' : Int, σ' = [some (.int x'), some (.int y')] ∧ H1 = H' ∧ 0 ≤ x' ∧ 0 ≤ y' ∧ Int.gcd x' y' = Int.gcd a b ∧ y' < y, fun σ' H1 hN => ?_, ?_⟩
      · obtain ⟨x', y', r1, r2, r3, r4, r5, r6⟩ := hN
        exact ⟨y'.toNat, by omega, x', y', r1, r2, r3, r4, r5, rfl⟩
      · refine ⟨_, rfl, _, rfl, _, rfl, x, y, rfl, rfl, e', _, _, rfl, y, x % y, rfl, rfl, hy, Int.emod_nonneg _ (by omega), ?_, Int.emod_lt_of_pos _ e'⟩
        rw [gcd_turn hx e', hg]
    · have e' : ¬ 0 < y := fun z => e (decide_eq_true z)
      have y0 : y = 0 := by omega
      subst y0
      refine ⟨_, rfl, ?_⟩
      rw [← hg, gcd_end x hx] at q
      exact q
theorem scSh : FnScope ["_law_one", "_law_other"] ["_law_one", "_law_other"] (defScope sSh) := ⟨rfl, rfl, rfl, by decide +kernel, rfl, by decide +kernel, by decide +kernel⟩
theorem ok_sh {f : Addr} {fd : FuncData} {k : Nat} (F : Fun K "_law_shared" "_law_shared" sSh f fd) (ma : mg "abs" = none) : FnOk P w K mg base CX0 (k + 1) f fd ["_law_one", "_law_other"] spGcd := by
  refine F.ok scSh (fun vs H Q E h => ?_) (fun cdv A outer s H vs Q E hr h => ?_)
  · obtain ⟨a, b, rfl, _⟩ := h
    rfl
  · obtain ⟨a, b, rfl, q⟩ := h
    refine ⟨_, pss_cons (ps_par (i := 0) (j := 1) rfl scSh.nd rfl rfl (by decide) rfl rfl
        (pa_cons (pe_callB call_abs (by rfl) ma boot_abs (pa_cons (pv 0) pa_nil)) (pa_cons (pe_callB call_abs (by rfl) ma boot_abs (pa_cons (pv 1) pa_nil)) pa_nil)) rfl)
      (pss_cons (ps_while PassesOwn.never (pt_cmpR op_gt (pv 1) pe_int (nomark _))
        (pss_one (ps_par (i := 0) (j := 1) rfl scSh.nd rfl rfl (by decide) rfl rfl (pa_cons (pv 1) (pa_cons (pe_op op_mod (pv 0) (pv 1)) pa_nil)) rfl)))
      (pss_one (ps_ret (pv 0)))), ?_⟩
    refine ⟨_, rfl, a, rfl, _, rfl, b, rfl, _, _, rfl, ?_⟩
    refine ⟨fun m σ H' => ∃ x y : Int, σ = [some (.int x), some (.int y)] ∧ H' = H ∧ 0 ≤ x ∧ 0 ≤ y ∧ Int.gcd x y = Int.gcd a b ∧ m = y.toNat,
      ⟨_, _, _, rfl, rfl, by split <;> omega, by split <;> omega, gcd_abs a b, rfl⟩, fun m σ H' hW => ?_⟩
    obtain ⟨x, y, rfl, rfl, hx, hy, hg, rfl⟩ := hW
    refine ⟨_, rfl, _, _, rfl, rfl, _, rfl, ite2 (fun e => ?_) (fun e => ?_)⟩
    · have e' : 0 < y := of_decide_eq_true e
      refine ⟨fun σ' H1 => ∃ x' y' : Int, σ' = [some (.int x'), some (.int y')] ∧ H1 = H' ∧ 0 ≤ x' ∧ 0 ≤ y' ∧ Int.gcd x' y' = Int.gcd a b ∧ y' < y, fun σ' H1 hN => ?_, ?_⟩
      · obtain ⟨x', y', r1, r2, r3, r4, r5, r6⟩ := hN
        exact ⟨y'.toNat, by omega, x', y', r1, r2, r3, r4, r5, rfl⟩
      · refine ⟨_, rfl, _, rfl, _, rfl, x, y, rfl, rfl, e', _, _, rfl, y, x % y, rfl, rfl, hy, Int.emod_nonneg _ (by omega), ?_, Int.emod_lt_of_pos _ e'⟩
        rw [gcd_turn hx e', hg]
    · have e' : ¬ 0 < y := fun z => e (decide_eq_true z)
      have y0 : y = 0 := by omega
      subst y0
      refine ⟨_, rfl, ?_⟩
      rw [← hg, gcd_end x hx] at q
      exact q
end
end SS

namespace SS
open PySem PySem.Spec PyProof.Rows L2
/-- what the top says of an own class of errors, straight or not under ValueError, at C -/
structure ExT (K : PySem.W.Frag) (mg : Str → Option Value) (x : Str) (C : Addr) : Prop where
  gC : mg x = some (.ref C)
  xC : PySem.W.excIn K C [.type "ValueError", .type "Exception", .type "BaseException", .type "object"] "ValueError.__new__" = true
  kC : PySem.W.keepIn K (.ref C) = true
  bC : PySem.W.subIn K (.ref C) (.type "BaseException") = some true
  tC : PySem.W.typeIn K (.ref C) = some (.type "type")
theorem logOf {b : Int} {n : Nat} (h0 : 0 < n) (h : b.natAbs < 2 ^ n) (hn : n ≤ 9000) : b.natAbs.log2 < 9000 := Nat.lt_of_lt_of_le (PySem.Flt.log2_lt_of h0 h) hn
theorem sgd_ok {t b : Int} (h : b ≠ 0) (hb : b.natAbs < 2 ^ 8000) (i : Int) : CDivG i (sgd t b) := by
  refine ⟨sgd_ne h, logOf (n := 8000) (by decide) ?_ (by decide)⟩
  rw [sgd_abs]
  refine Nat.lt_of_le_of_lt (Nat.le_of_dvd (Int.natAbs_pos.mpr h) ?_) hb
  exact Nat.gcd_dvd_right ..
section
variable {P : Program} {w : World} {K : PySem.W.Frag} {mg : Str → Option Value} {base : Heap}
/-! ### fraction_of; the law's own _law_frac -/
def spFo (C : Addr) : Sp := fun vs H Q E => ∃ t b : Int, vs = [.int t, .int b] ∧ (b = 0 → E (.ref C) none H) ∧
  (b ≠ 0 → b.natAbs < 2 ^ 8000 ∧ ∀ p, H p = none → Q (.ref p) (upd H p (.tup [.int (fr1 t b), .int (fr2 t b)])))
theorem scFo : FnScope ["top", "bottom", "divisor"] ["top", "bottom"] (defScope sFo) := ⟨rfl, rfl, rfl, by decide +kernel, rfl, by decide +kernel, by decide +kernel⟩
theorem ok_fo {f C : Addr} {fd : FuncData} (F : FunD K "fraction_of" "fraction_of" (defArgs sFo) (defBody sFo) (defScope sFo) [.int 1] [] f fd) (T : ExT K mg "NoFraction" C)
    (cd : Cl P w K mg base CX0 1 "common_divisor" spGcd []) : FnOk P w K mg base (L2.CX P w) 2 f fd ["top", "bottom"] (spFo C) := by
  refine F.ok scFo (fun vs H Q E h => ?_) (fun cdv A outer s H vs Q E hr h => ?_)
  · obtain ⟨a, b, rfl, _⟩ := h
    rfl
  · obtain ⟨t, b, rfl, q0, q1⟩ := h
    refine ⟨_, pss_cons (ps_if (pt_cmpR op_eq (pv 1) pe_int (nomark _))
        (pss_one (ps_raise rfl (takes_of rfl rfl rfl rfl) (pmk_own PySem.F.excBase_ValueError T.xC T.gC T.kC (raises_own T.bC T.tC) (by exact rfl)))) pss_nil)
      (pss_cons (ps_set (i := 2) scFo.nd rfl (.inl rfl) (pc0 cd hr (by decide) (pa_cons (pv 0) (pa_cons (pv 1) pa_nil))))
      (pss_cons (ps_if (pt_cmpR op_lt (pv 1) pe_int (nomark _)) (pss_one (ps_set (i := 2) scFo.nd rfl (.inl rfl) (pe_un un_neg (pv 2)))) pss_nil)
      (pss_one (ps_ret (pe_tup (pa_cons (pe_op op_fdivG (pv 0) (pv 2)) (pa_cons (pe_op op_fdivG (pv 1) (pv 2)) pa_nil))))))), ?_⟩
    refine ⟨_, rfl, rfl, _, rfl, ite2 (fun e => ?_) (fun e => ?_)⟩
    · exact q0 (V.int.inj (of_decide_eq_true e))
    · have h0 : b ≠ 0 := fun z => e (by rw [z]; exact decide_eq_true rfl)
      obtain ⟨hb, q⟩ := q1 h0
      refine ⟨_, rfl, _, rfl, t, b, rfl, ?_⟩
      refine ⟨_, rfl, _, _, rfl, rfl, _, rfl, ite2 (fun e2 => ?_) (fun e2 => ?_)⟩
      · have e3 : sgd t b = -((Int.gcd t b : Nat) : Int) := if_pos (of_decide_eq_true e2)
        refine ⟨_, rfl, _, rfl, ?_⟩
        refine ⟨_, rfl, _, rfl, t, sgd t b, rfl, by rw [e3], sgd_ok h0 hb t, _, rfl, _, rfl, b, sgd t b, rfl, by rw [e3], sgd_ok h0 hb b, small2, q⟩
      · have e3 : sgd t b = ((Int.gcd t b : Nat) : Int) := if_neg fun z => e2 (decide_eq_true z)
        refine ⟨_, rfl, _, rfl, t, sgd t b, rfl, by rw [e3], sgd_ok h0 hb t, _, rfl, _, rfl, b, sgd t b, rfl, by rw [e3], sgd_ok h0 hb b, small2, q⟩
end
end SS

namespace SS
open PySem PySem.Spec PyProof.Rows L2
section
variable {P : Program} {w : World} {K : PySem.W.Frag} {mg : Str → Option Value} {base : Heap}
def spFrac : Sp := fun vs H Q _ => ∃ t b : Int, vs = [.int t, .int b] ∧ b ≠ 0 ∧ b.natAbs < 2 ^ 8000 ∧ ∀ p, H p = none → Q (.ref p) (upd H p (.tup [.int (fr1 t b), .int (fr2 t b)]))
theorem scFrac : FnScope ["_law_top", "_law_bottom", "_law_by"] ["_law_top", "_law_bottom"] (defScope sFrac) := ⟨rfl, rfl, rfl, by decide +kernel, rfl, by decide +kernel, by decide +kernel⟩
theorem ok_frac {f : Addr} {fd : FuncData} (F : Fun K "_law_frac" "_law_frac" sFrac f fd) (sh : Cl P w K mg base CX0 1 "_law_shared" spGcd []) : FnOk P w K mg base CX0 2 f fd ["_law_top", "_law_bottom"] spFrac := by
  refine F.ok scFrac (fun vs H Q E h => ?_) (fun cdv A outer s H vs Q E hr h => ?_)
  · obtain ⟨a, b, rfl, _⟩ := h
    rfl
  · obtain ⟨t, b, rfl, h0, hb, q⟩ := h
    refine ⟨_, pss_cons (ps_set (i := 2) scFrac.nd rfl (.inl rfl) (pc0 sh hr (by decide) (pa_cons (pv 0) (pa_cons (pv 1) pa_nil))))
      (pss_cons (ps_if (pt_cmpR op_lt (pv 1) pe_int (nomark _)) (pss_one (ps_set (i := 2) scFrac.nd rfl (.inl rfl) (pe_op op_sub pe_int (pv 2)))) pss_nil)
      (pss_one (ps_ret (pe_tup (pa_cons (pe_op op_fdivG (pv 0) (pv 2)) (pa_cons (pe_op op_fdivG (pv 1) (pv 2)) pa_nil)))))), ?_⟩
    refine ⟨_, rfl, _, rfl, t, b, rfl, ?_⟩
    refine ⟨_, rfl, _, _, rfl, rfl, _, rfl, ite2 (fun e2 => ?_) (fun e2 => ?_)⟩
    · have e3 : sgd t b = -((Int.gcd t b : Nat) : Int) := if_pos (of_decide_eq_true e2)
      refine ⟨_, rfl, _, _, rfl, rfl, ?_⟩
      refine ⟨_, rfl, _, rfl, t, sgd t b, rfl, by rw [e3]; exact congrArg V.int (Int.zero_sub _), sgd_ok h0 hb t, _, rfl, _, rfl, b, sgd t b, rfl, by rw [e3]; exact congrArg V.int (Int.zero_sub _), sgd_ok h0 hb b, small2, q⟩
    · have e3 : sgd t b = ((Int.gcd t b : Nat) : Int) := if_neg fun z => e2 (decide_eq_true z)
      refine ⟨_, rfl, _, rfl, t, sgd t b, rfl, by rw [e3], sgd_ok h0 hb t, _, rfl, _, rfl, b, sgd t b, rfl, by rw [e3], sgd_ok h0 hb b, small2, q⟩
end
end SS

namespace SS
open PySem PySem.Spec PyProof.Rows L2
section
variable {P : Program} {w : World} {K : PySem.W.Frag} {mg : Str → Option Value} {base : Heap}
/-! ### the law's draws: fresh, mixed, fill, take -/
def spFresh (K : PySem.W.Frag) : Sp := fun vs H Q _ => ∃ (a : Addr) (ns : List Int), vs = [.ref a] ∧ SqL K H a (ns.map V.int) ∧
  ∀ H' st c, Same H H' → H st = none → H c = none → StA st c H' → Q (.ref st) H'
theorem scFresh : FnScope ["_law_script"] ["_law_script"] (defScope sFresh) := ⟨rfl, rfl, rfl, by decide +kernel, rfl, by decide +kernel, by decide +kernel⟩
theorem cut63 (xs : List V) : (cutV xs none (some 63)) = xs.take 63 := by
  unfold cutV
  rw [HT.sIx_none, show HT.sIx xs.length xs.length (some 63) = min 63 xs.length from HT.sIx_nat xs.length xs.length 63]
  show List.take (min 63 xs.length - 0) (xs.drop 0) = xs.take 63
  rw [List.drop_zero, Nat.sub_zero]
  by_cases h : xs.length ≤ 63
  · rw [Nat.min_eq_right h, List.take_length, List.take_of_length_le h]
  · rw [Nat.min_eq_left (by omega)]
theorem ok_fresh {f : Addr} {fd : FuncData} {k : Nat} (F : Fun K "_law_fresh" "_law_fresh" sFresh f fd) : FnOk P w K mg base CX0 (k + 1) f fd ["_law_script"] (spFresh K) := by
  refine F.ok scFresh (fun vs H Q E h => ?_) (fun cdv A outer s H vs Q E hr h => ?_)
  · obtain ⟨a, ns, rfl, _⟩ := h
    rfl
  · obtain ⟨a, ns, rfl, hS, q⟩ := h
    refine ⟨_, pss_one (ps_ret (pe_lst (pa_cons (pe_slice sl_list (pv 0) po_none (po_some pe_int)) (pa_cons pe_int (pa_cons pe_int (pa_cons pe_bl pa_nil)))))), ?_⟩
    refine ⟨_, rfl, 63, rfl, a, _, rfl, hS, fun c nc => ?_⟩
    refine ⟨by show 4 ≤ sizeLine; decide, fun st nst => ?_⟩
    have ncs : c ≠ st := fun e => by
      rw [e, upd_same] at nst
      cases nst
    have s1 := same_new (o := .lst (cutV (ns.map V.int) none (some 63))) nc
    refine q _ st c (s1.trans (same_new nst)) (s1.free nst) nc ⟨0, 0, false, ns.take 63, upd_same, ?_, ?_, ncs⟩
    · rw [upd_ne ncs, upd_same, cut63, List.map_take]
    · rw [List.length_take]
      exact Nat.min_le_left _ _
def spMixed : Sp := fun vs H Q _ => ∃ z : Int, vs = [.int z] ∧ ∀ H' (m : Int), Same H H' → Q (.int m) H'
theorem scMixed : FnScope ["_law_seed", "_law_primes", "_law_number_here", "_law_k", "_law_prime", "_law_far", "_law_square", "_law_power"] ["_law_seed"] (defScope sMixed) := ⟨rfl, rfl, rfl, by decide +kernel, rfl, by decide +kernel, by decide +kernel⟩
def primes : List Int := [2147483647, 2147483629, 2147483587, 2147483579, 2147483563]
def adds : List Int := [11, 101, 1009, 10007, 100003]
theorem at_some {xs : List Int} {i : Nat} (h : i < xs.length) : atI (xs.map V.int) (i : Int) = some (.int xs[i]) :=
  atI_nat (by rw [List.getElem?_map, List.getElem?_eq_getElem h]; rfl)
theorem primes_ok : ∀ x ∈ primes, 0 < x ∧ x < 2 ^ 31 := by decide
theorem ok_mixed {f : Addr} {fd : FuncData} {k : Nat} (F : Fun K "_law_mixed" "_law_mixed" sMixed f fd) (me : mg "enumerate" = none) : FnOk P w K mg base CX0 (k + 1) f fd ["_law_seed"] spMixed := by
  refine F.ok scMixed (fun vs H Q E h => ?_) (fun cdv A outer s H vs Q E hr h => ?_)
  · obtain ⟨a, rfl, _⟩ := h
    rfl
  · obtain ⟨z, rfl, q⟩ := h
    refine ⟨_, pss_cons (ps_set (i := 1) scMixed.nd rfl (.inl rfl) (pe_tup (pa_cons pe_int (pa_cons pe_int (pa_cons pe_int (pa_cons pe_int (pa_cons pe_int pa_nil)))))))
      (pss_cons (ps_set (i := 2) scMixed.nd rfl (.inl rfl) pe_int)
      (pss_cons (ps_for PassesOwn.never rfl (pi_enT (by rfl) me (pa_cons (pv 1) pa_nil)) (pg_tup rfl (pgs_cons (pg_name (i := 3) scMixed.nd rfl (.inl rfl)) (pgs_cons (pg_name (i := 4) scMixed.nd rfl (.inl rfl)) pgs_nil)))
        (pss_cons (ps_set (i := 5) scMixed.nd rfl (.inl rfl) (pe_op op_add (pv 0) (pe_ix ix_tup (pe_tup (pa_cons pe_int (pa_cons pe_int (pa_cons pe_int (pa_cons pe_int (pa_cons pe_int pa_nil)))))) (pv 3) (fun _ _ => rfl))))
        (pss_cons (ps_set (i := 5) scMixed.nd rfl (.inl rfl) (pe_op op_mod (pe_op op_mul (pv 5) (pe_op op_add pe_int (pe_op op_mul pe_int (pv 3)))) (pv 4)))
        (pss_cons (ps_set (i := 6) scMixed.nd rfl (.inl rfl) (pe_op op_mod (pe_op op_mul (pv 5) (pv 5)) (pv 4)))
        (pss_cons (ps_set (i := 7) scMixed.nd rfl (.inl rfl) (pe_op op_mod (pe_op op_mul (pe_op op_mod (pe_op op_mul (pv 6) (pv 6)) (pv 4)) (pv 5)) (pv 4)))
        (pss_one (ps_set (i := 2) scMixed.nd rfl (.inl rfl) (pe_op op_add (pe_op op_mul (pv 2) (pv 4)) (pv 7)))))))))
      (pss_one (ps_ret (pv 2))))), ?_⟩
    refine ⟨by show 5 ≤ sizeLine; decide, fun t nt => ?_⟩
    have s1 := same_new (o := .tup (primes.map V.int)) nt
    have e1 : (upd H t (.tup (primes.map V.int))) t = some (.tup (primes.map V.int)) := upd_same
    refine ⟨_, rfl, t, primes.map V.int, rfl, .inl (.inl e1), ?_⟩
    refine ⟨fun i m σ H3 => ∃ (nn : Int) (y3 y4 y5 y6 y7 : Option V), σ = [some (.int z), some (.ref t), some (.int nn), y3, y4, y5, y6, y7] ∧ i + m = 5 ∧ Same (upd H t (.tup (primes.map V.int))) H3,
      ⟨5, 0, none, none, none, none, none, rfl, rfl, Same.refl _⟩, fun i m σ H3 hW => ?_⟩
    obtain ⟨nn, y3, y4, y5, y6, y7, rfl, em, sm⟩ := hW
    have e3 : SqT K H3 t (primes.map V.int) := .inl (.inl (sm _ _ e1))
    by_cases hi : i < 5
    · have hp : i < primes.length := hi
      refine .inr ⟨⟨_, _, e3, by rw [List.getElem?_map, List.getElem?_eq_getElem hp]; rfl⟩,
        fun σ' H' => ∃ (nn : Int) (y3 y4 y5 y6 y7 : Option V), σ' = [some (.int z), some (.ref t), some (.int nn), y3, y4, y5, y6, y7] ∧ Same (upd H t (.tup (primes.map V.int))) H', fun σ' H' hN => ?_, fun x H' hy => ?_⟩
      · obtain ⟨a1, a2, a3, a4, a5, a6, r1, r2⟩ := hN
        exact ⟨m - 1, by omega, a1, a2, a3, a4, a5, a6, r1, by omega, r2⟩
      · obtain ⟨T, v, rfl, nT, rfl, fv⟩ := hy
        have ev : v = .int primes[i] := by
          have zz := fv _ e3
          rw [List.getElem?_map, List.getElem?_eq_getElem hp] at zz
          exact (Option.some.inj zz).symm
        subst ev
        have pr : 0 < primes[i] ∧ primes[i] < 2 ^ 31 := primes_ok _ (List.getElem_mem hp)
        generalize primes[i] = pp at pr
        have sT := same_new (o := .tup [.int (i : Nat), .int pp]) nT
        refine ⟨T, [.int (i : Nat), .int pp], rfl, .inl (.inl upd_same), rfl, _, _, rfl, _, _, rfl, rfl, ?_⟩
        -- far = seed + (..)[k]
        refine ⟨_, rfl, by show 5 ≤ sizeLine; decide, fun U nU => ?_⟩
        have sU := same_new (o := .tup (adds.map V.int)) nU
        have hA : i < adds.length := hi
        refine ⟨_, rfl, U, adds.map V.int, (i : Int), .int adds[i], rfl, rfl, .inl (.inl upd_same), at_some hA, z, adds[i], rfl, rfl, ?_⟩
        obtain ⟨far, hfar⟩ : ∃ far, z + adds[i] = far := ⟨_, rfl⟩
        -- far = far * (48271 + 2 * k) % prime
        refine ⟨_, rfl, _, rfl, 2, (i : Int), rfl, rfl, .inl ⟨by decide, by decide⟩, 48271, 2 * (i : Int), rfl, rfl, far, _, congrArg V.int hfar, rfl, .inr ⟨by omega, by omega⟩, _, rfl, _, pp, rfl, rfl, pr.1, ?_⟩
        obtain ⟨fa, hfa⟩ : ∃ fa, far * (48271 + 2 * (i : Int)) % pp = fa := ⟨_, rfl⟩
        have f1 := Int.emod_nonneg (far * (48271 + 2 * (i : Int))) (b := pp) (by omega)
        have f2 := Int.emod_lt_of_pos (far * (48271 + 2 * (i : Int))) pr.1
        rw [hfa] at f1 f2
        -- square
        refine ⟨_, rfl, _, rfl, fa, fa, congrArg V.int hfa, congrArg V.int hfa, .inl ⟨by omega, by omega⟩, _, rfl, _, pp, rfl, rfl, pr.1, ?_⟩
        obtain ⟨sq, hsq⟩ : ∃ sq, fa * fa % pp = sq := ⟨_, rfl⟩
        have g1 := Int.emod_nonneg (fa * fa) (b := pp) (by omega)
        have g2 := Int.emod_lt_of_pos (fa * fa) pr.1
        rw [hsq] at g1 g2
        -- power
        refine ⟨_, rfl, _, rfl, sq, sq, congrArg V.int hsq, congrArg V.int hsq, .inl ⟨by omega, by omega⟩, _, rfl, _, pp, rfl, rfl, pr.1, _, rfl, _, fa, rfl, congrArg V.int hfa, .inr ⟨by omega, by omega⟩, _, rfl, _, pp, rfl, rfl, pr.1, ?_⟩
        -- number
        refine ⟨_, rfl, _, rfl, nn, pp, rfl, rfl, .inr ⟨by omega, by omega⟩, _, rfl, _, _, rfl, rfl, ?_⟩
        exact ⟨_, _, _, _, _, _, rfl, sm.trans (sT.trans sU)⟩
    · refine .inl ⟨⟨_, e3, by show 5 = i; omega⟩, _, rfl, q _ nn (s1.trans sm)⟩
end
end SS

namespace SS
open PySem PySem.Spec PyProof.Rows L2
section
variable {P : Program} {w : World} {K : PySem.W.Frag} {mg : Str → Option Value} {base : Heap}
def spFill : Sp := fun vs H Q _ => ∃ st c : Addr, vs = [.ref st] ∧ StA st c H ∧ ∀ H', But st H H' → StA st c H' → Q .non H'
theorem scFill : FnScope ["_law_state", "_law_cells", "_law_at", "_law_seed"] ["_law_state"] (defScope sFill) := ⟨rfl, rfl, rfl, by decide +kernel, rfl, by decide +kernel, by decide +kernel⟩
theorem ok_fill {f : Addr} {fd : FuncData} (F : Fun K "_law_fill" "_law_fill" sFill f fd) (ml : mg "len" = none) (mx : Cl P w K mg base CX0 1 "_law_mixed" spMixed []) : FnOk P w K mg base CX0 2 f fd ["_law_state"] spFill := by
  refine F.ok scFill (fun vs H Q E h => ?_) (fun cdv A outer s H vs Q E hr h => ?_)
  · obtain ⟨a, _, rfl, _⟩ := h
    rfl
  · obtain ⟨st, c, rfl, hst, q⟩ := h
    refine ⟨_, pss_cons (ps_par (i := 1) (j := 2) rfl scFill.nd rfl rfl (by decide) rfl rfl (pa_cons (pe_ix ix_list (pv 0) pe_int (fun _ _ => rfl)) (pa_cons (pe_ix ix_list (pv 0) pe_int (fun _ _ => rfl)) pa_nil)) rfl)
      (pss_cons (ps_set (i := 3) scFill.nd rfl (.inl rfl) (pe_op op_add (pe_op op_mul pe_int (pv 2)) pe_int))
      (pss_cons (ps_if (pt_cmpR op_gt (pe_callB call_len_seq (by rfl) ml PySem.boot_len (pa_cons (pv 1) pa_nil)) pe_int (nomark _))
        (pss_cons (ps_set (i := 3) scFill.nd rfl (.inl rfl) (pe_op op_mul pe_int (pe_op op_fdiv (pv 2) (pe_callB call_len_seq (by rfl) ml PySem.boot_len (pa_cons (pv 1) pa_nil)))))
        (pss_one (ps_set (i := 3) scFill.nd rfl (.inl rfl) (pe_op op_add (pv 3) (pe_ix ix_list (pv 1) (pe_op op_mod (pv 2) (pe_callB call_len_seq (by rfl) ml PySem.boot_len (pa_cons (pv 1) pa_nil))) (fun _ _ => rfl))))))
        pss_nil)
      (pss_cons (ps_asg (pe_op op_add (pv 2) pe_int) (pg_sub (pv 0) pe_int set_list))
      (pss_cons (ps_asg (pe_or (pe_cmpR op_ge (pv 2) (pe_callB call_len_seq (by rfl) ml PySem.boot_len (pa_cons (pv 1) pa_nil)) (nomark _)) (pe_one (pe_cmpR op_lt (pv 3) (pe_op op_pow pe_int pe_int) (nomark _)))) (pg_sub (pv 0) pe_int set_list))
      (pss_one (ps_if (pt_val (pe_ix ix_list (pv 0) pe_int (fun _ _ => rfl)))
        (pss_one (ps_asg (pc0 mx hr (by decide) (pa_cons (pv 3) pa_nil)) (pg_sub (pv 0) pe_int set_list)))
        (pss_one (ps_asg (pe_op op_sub (pv 3) (pe_op op_pow pe_int pe_int)) (pg_sub (pv 0) pe_int set_list))))))))), ?_⟩
    obtain ⟨i, n, b, xs, h1, h2, h3, h4⟩ := hst
    refine ⟨_, rfl, st, _, 0, _, rfl, rfl, SqL.of h1, atI_nat (j := 0) rfl, _, rfl, st, _, 1, _, rfl, rfl, SqL.of h1, atI_nat (j := 1) rfl, _, _, rfl, ?_⟩
    refine ⟨_, rfl, 31, i, rfl, rfl, .inl ⟨by decide, by decide⟩, _, 7, rfl, rfl, ?_⟩
    refine ⟨_, rfl, c, _, rfl, .inl (SqL.of h2), _, _, rfl, rfl, _, rfl, ite2 (fun e => ?_) (fun e => ?_)⟩
    have e0 : (0 : Int) < ((xs.map V.int).length : Int) := of_decide_eq_true e
    have e1 : 0 < xs.length := by
      rw [List.length_map] at e0
      omega
    have el : ((xs.map V.int).length : Int) = (xs.length : Int) := by rw [List.length_map]
    refine ⟨_, rfl, _, rfl, c, _, rfl, .inl (SqL.of h2), i, (xs.length : Int), rfl, congrArg V.int el, ⟨by omega, by omega⟩, 104729, _, rfl, rfl, .inl ⟨by decide, by decide⟩, ?_⟩
    have m1 := Int.emod_nonneg i (b := (xs.length : Int)) (by omega)
    have m2 := Int.emod_lt_of_pos i (b := (xs.length : Int)) (by omega)
    have m3 : (i % (xs.length : Int)).toNat < xs.length := by omega
    have m4 : atI (xs.map V.int) (i % (xs.length : Int)) = some (.int xs[(i % (xs.length : Int)).toNat]) := by
      have e5 : i % (xs.length : Int) = (((i % (xs.length : Int)).toNat : Nat) : Int) := by omega
      exact at_of e5 (by rw [List.getElem?_map, List.getElem?_eq_getElem m3]; rfl)
    refine ⟨_, rfl, _, rfl, _, rfl, _, rfl, c, _, rfl, .inl (SqL.of h2), i, (xs.length : Int), rfl, congrArg V.int el, by omega, c, _, _, _, rfl, rfl, SqL.of h2, m4, _, _, rfl, rfl, ?_⟩
    all_goals
      refine ⟨_, rfl, i, 1, rfl, rfl, _, rfl, st, _, 1, 1, rfl, rfl, h1, rfl, ?_⟩
      have k2 : ∀ o : HO, (upd H st o) c = some (.lst (xs.map V.int)) := fun o => by
        rw [upd_ne h4]
        exact h2
      refine ⟨_, rfl, _, rfl, c, _, rfl, .inl (SqL.of (k2 _)), _, _, rfl, rfl, _, rfl, ite2 (fun e2 => ?_) (fun e2 => ?_)⟩
      rotate_left
      refine ⟨_, rfl, 10, 18, rfl, rfl, ⟨by decide, by decide, by decide⟩, _, _, rfl, rfl, ?_⟩
      all_goals
        refine ⟨_, rfl, st, _, 3, 3, rfl, rfl, upd_same, rfl, ?_⟩
        refine ⟨_, rfl, st, _, 3, _, rfl, rfl, SqL.of upd_same, atI_nat (j := 3) rfl, _, rfl, ite2 (fun e3 => ?_) (fun e3 => ?_)⟩
        · refine ⟨_, rfl, _, rfl, fun H3 m sm => ?_⟩
          refine ⟨_, rfl, st, _, 2, 2, rfl, rfl, sm _ _ upd_same, rfl, ?_⟩
          refine q _ (((But.upd.trans But.upd).trans (Same.but sm)).trans But.upd) ⟨_, _, _, xs, upd_same, ?_, h3, h4⟩
          rw [upd_ne h4]
          refine sm _ _ ?_
          rw [upd_ne h4]
          exact k2 _
        · refine ⟨_, rfl, 10, 18, rfl, rfl, ⟨by decide, by decide, by decide⟩, _, _, rfl, rfl, _, rfl, st, _, 2, 2, rfl, rfl, upd_same, rfl, ?_⟩
          refine q _ ((But.upd.trans But.upd).trans But.upd) ⟨_, _, _, xs, upd_same, ?_, h3, h4⟩
          rw [upd_ne h4, upd_ne h4]
          exact k2 _
end
end SS

namespace SS
open PySem PySem.Spec PyProof.Rows L2
section
variable {P : Program} {w : World} {K : PySem.W.Frag} {mg : Str → Option Value} {base : Heap}
def spTake : Sp := fun vs H Q _ => ∃ (st c : Addr) (many : Int), vs = [.ref st, .int many] ∧ 0 < many ∧ many.natAbs < 2 ^ 8000 ∧ StA st c H ∧
  ∀ H' (d : Int), But st H H' → StA st c H' → 0 ≤ d → d < many → Q (.int d) H'
theorem scTake : FnScope ["_law_state", "_law_many", "_law_turns", "_law_digit"] ["_law_state", "_law_many"] (defScope sTake) := ⟨rfl, rfl, rfl, by decide +kernel, rfl, by decide +kernel, by decide +kernel⟩
theorem StA.put {st : Addr} {H : Hp} {c : Addr} {i n : Int} {f : Bool} {xs : List Int} (h2 : H c = some (.lst (xs.map V.int))) (h3 : xs.length ≤ 63) (h4 : c ≠ st) : StA st c (upd H st (.lst [.ref c, .int i, .int n, .bl f])) :=
  ⟨i, n, f, xs, upd_same, by rw [upd_ne h4]; exact h2, h3, h4⟩
theorem ok_take {f : Addr} {fd : FuncData} (F : Fun K "_law_take" "_law_take" sTake f fd) (fl : Cl P w K mg base CX0 2 "_law_fill" spFill []) : FnOk P w K mg base CX0 3 f fd ["_law_state", "_law_many"] spTake := by
  refine F.ok scTake (fun vs H Q E h => ?_) (fun cdv A outer s H vs Q E hr h => ?_)
  · obtain ⟨a, _, b, rfl, _⟩ := h
    rfl
  · obtain ⟨st, c, many, rfl, m0, m1, hst, q⟩ := h
    refine ⟨_, pss_cons (ps_set (i := 2) scTake.nd rfl (.inl rfl) pe_int)
      (pss_cons (ps_while PassesOwn.never
        (PW.pt (pw_and (pt_cmpR op_lt (pv 2) pe_int (nomark _)) (pw_and1 (PW.pt (pw_or (pt_cmpR op_eq (pe_ix ix_list (pv 0) pe_int (fun _ _ => rfl)) pe_int (nomark _))
          (pw_or1 (PW.pt (pw_and (pt_val (pe_ix ix_list (pv 0) pe_int (fun _ _ => rfl))) (pw_and1 (pt_cmpR op_lt (pe_ix ix_list (pv 0) pe_int (fun _ _ => rfl)) (pe_op op_mul (pv 1) pe_int) (nomark _)))))))))))
        (pss_cons (ps_expr (pc0 fl hr (by decide) (pa_cons (pv 0) pa_nil)))
        (pss_cons (ps_aug (i := 2) scTake.nd rfl (.inl rfl) pe_int ip_add)
        (pss_one (ps_if (PW.pt (pw_and (pt_val (pe_ix ix_list (pv 0) pe_int (fun _ _ => rfl))) (pw_and1 (pt_cmpR op_lt (pe_ix ix_list (pv 0) pe_int (fun _ _ => rfl)) (pe_op op_mul (pv 1) pe_int) (nomark _)))))
          (pss_one (ps_asg (pe_op op_add (pe_ix ix_list (pv 0) pe_int (fun _ _ => rfl)) (pe_op op_mul (pe_op op_mul (pv 1) pe_int) (pe_op op_add pe_int (pe_op op_mod (pe_ix ix_list (pv 0) pe_int (fun _ _ => rfl)) pe_int)))) (pg_sub (pv 0) pe_int set_list))) pss_nil)))))
      (pss_cons (ps_set (i := 3) scTake.nd rfl (.inl rfl) (pe_op op_mod (pe_ix ix_list (pv 0) pe_int (fun _ _ => rfl)) (pv 1)))
      (pss_cons (ps_asg (pe_op op_fdivW (pe_ix ix_list (pv 0) pe_int (fun _ _ => rfl)) (pv 1)) (pg_sub (pv 0) pe_int set_list))
      (pss_one (ps_ret (pv 3)))))), ?_⟩
    refine ⟨fun m σ H' => ∃ (tn : Int) (y3 : Option V), σ = [some (.ref st), some (.int many), some (.int tn), y3] ∧ But st H H' ∧ StA st c H' ∧ m = (64 - tn).toNat,
      ⟨64, 0, none, rfl, But.refl _ _, hst, rfl⟩, fun m σ H1 hW => ?_⟩
    obtain ⟨tn, y3, rfl, bt, sa, rfl⟩ := hW
    obtain ⟨i, n, b, xs, h1, h2, h3, h4⟩ := id sa
    refine ⟨_, rfl, tn, 64, rfl, rfl, _, rfl, ite2 (fun e => ?n2) (fun e => iteF ?ex1)⟩
    case' n2 => refine ⟨_, rfl, st, _, 2, _, rfl, rfl, SqL.of h1, atI_nat (j := 2) rfl, rfl, _, rfl, ite2 (fun e1 => iteT ?bd1) (fun e1 => ?n3)⟩
    case' n3 => refine ⟨_, rfl, st, _, 3, _, rfl, rfl, SqL.of h1, atI_nat (j := 3) rfl, _, rfl, ite2 (fun e2 => ?n4) (fun e2 => iteF ?ex2)⟩
    case' n4 => refine ⟨_, rfl, st, _, 2, _, rfl, rfl, SqL.of h1, atI_nat (j := 2) rfl, _, rfl, many, 4096, rfl, rfl, .inr ⟨by decide, by decide⟩, n, _, rfl, rfl, _, rfl, ite2 (fun e3 => ?bd2) (fun e3 => ?ex3)⟩
    case ex1 | ex2 | ex3 =>
      refine ⟨_, rfl, st, _, 2, _, rfl, rfl, SqL.of h1, atI_nat (j := 2) rfl, _, rfl, n, many, rfl, rfl, m0, ?_⟩
      refine ⟨_, rfl, st, _, 2, _, rfl, rfl, SqL.of h1, atI_nat (j := 2) rfl, _, rfl, n, many, rfl, rfl, wide_div m0 m1 (by decide) (by decide), _, rfl, st, _, 2, 2, rfl, rfl, h1, rfl, ?_⟩
      exact ⟨_, rfl, q _ _ (bt.trans But.upd) (StA.put h2 h3 h4) (Int.emod_nonneg _ (by omega)) (Int.emod_lt_of_pos _ m0)⟩
    case bd1 | bd2 =>
      have e' : tn < 64 := of_decide_eq_true e
      refine ⟨fun σ' H' => ∃ (tn' : Int) (y3 : Option V), σ' = [some (.ref st), some (.int many), some (.int tn'), y3] ∧ But st H H' ∧ StA st c H' ∧ tn' = tn + 1, fun σ' H' hN => ?_, ?_⟩
      · obtain ⟨t', y', r1, r2, r3, r4⟩ := hN
        exact ⟨_, by omega, t', y', r1, r2, r3, rfl⟩
      · refine ⟨_, rfl, st, c, rfl, sa, fun H2 b2 s2 => ?_⟩
        obtain ⟨i, n, b, xs, h1, h2, h3, h4⟩ := id s2
        refine ⟨_, rfl, _, _, rfl, rfl, ?_⟩
        refine ⟨_, rfl, st, _, 3, _, rfl, rfl, SqL.of h1, atI_nat (j := 3) rfl, _, rfl, ite2 (fun e2 => ?_) (fun e2 => iteF ?_)⟩
        · refine ⟨_, rfl, st, _, 2, _, rfl, rfl, SqL.of h1, atI_nat (j := 2) rfl, _, rfl, many, 4096, rfl, rfl, .inr ⟨by decide, by decide⟩, n, _, rfl, rfl, _, rfl, ite2 (fun e3 => ?_) (fun e3 => ?_)⟩
          · refine ⟨_, rfl, st, _, 2, _, rfl, rfl, SqL.of h1, atI_nat (j := 2) rfl, _, rfl, many, 4096, rfl, rfl, .inr ⟨by decide, by decide⟩, _, rfl, st, _, 2, _, rfl, rfl, SqL.of h1, atI_nat (j := 2) rfl, n, 4093, rfl, rfl, (by show (0 : Int) < 4093; decide), 1, n % 4093, rfl, rfl, _, 1 + n % 4093, rfl, rfl, .inr ⟨by omega, by omega⟩, n, _, rfl, rfl, ?_⟩
            refine ⟨_, rfl, st, _, 2, 2, rfl, rfl, h1, rfl, ?_⟩
            exact ⟨_, _, rfl, (bt.trans b2).trans But.upd, StA.put h2 h3 h4, rfl⟩
          · exact ⟨_, _, rfl, bt.trans b2, s2, rfl⟩
        · exact ⟨_, _, rfl, bt.trans b2, s2, rfl⟩
end
end SS

namespace SS
open PySem PySem.Spec PyProof.Rows L2
theorem sm_mul {i j : Int} {a b : Nat} (ha : i.natAbs < 2 ^ a) (hb : j.natAbs < 2 ^ b) : (i * j).natAbs < 2 ^ (a + b) := wide_lt ha hb
theorem sm_add {i j : Int} {a : Nat} (ha : i.natAbs < 2 ^ a) (hb : j.natAbs < 2 ^ a) : (i + j).natAbs < 2 ^ (a + 1) := by
  rw [Nat.pow_succ]
  omega
theorem sm_sub {i j : Int} {a : Nat} (ha : i.natAbs < 2 ^ a) (hb : j.natAbs < 2 ^ a) : (i - j).natAbs < 2 ^ (a + 1) := by
  rw [Nat.pow_succ]
  omega
theorem sm_mono {i : Int} {a b : Nat} (ha : i.natAbs < 2 ^ a) (h : a ≤ b) : i.natAbs < 2 ^ b := Nat.lt_of_lt_of_le ha (Nat.pow_le_pow_right (by decide) h)
theorem pos_ne {a b : Int} (h1 : 0 < a) (h2 : 0 < b) : a * b ≠ 0 := Int.ne_of_gt (Int.mul_pos h1 h2)
end SS

namespace SS
open PySem PySem.Spec PyProof.Rows L2
/-! ### how many bits a number has -/
theorem mt_bits {X : Cx} : MtR X "int.bit_length" (fun x xs H Q => ∃ a : Int, x = .int a ∧ xs = [] ∧ Q (.int ((Builtin.Int.intBits a : Nat) : Int)) H) := by
  intro pins s σ H x xs v us Q I rx rs h
  obtain ⟨a, rfl, rfl, h⟩ := h
  obtain ⟨t, rfl⟩ := rx
  cases rs
  exact call_int_bit_length ⟨.int ((Builtin.Int.intBits a : Nat) : Int), H, I.tok _, ⟨_, rfl⟩, h⟩
theorem bits_le {d : Int} {k : Nat} (h : d.natAbs < 2 ^ k) : Builtin.Int.intBits d ≤ k := by
  unfold Builtin.Int.intBits
  by_cases c : d = 0
  · rw [if_pos (beq_iff_eq.mpr c)]
    exact Nat.zero_le _
  · rw [if_neg fun z => c (beq_iff_eq.mp z)]
    exact (Nat.log2_lt (Int.natAbs_ne_zero.mpr c)).mpr h
theorem dv_lt {d g : Int} {k : Nat} (hg : g ∣ d) (h0 : g ≠ 0) (h : d.natAbs < 2 ^ k) : (d.fdiv g).natAbs < 2 ^ k := by
  obtain ⟨c, rfl⟩ := hg
  rw [gcdDvdMul h0]
  rw [Int.natAbs_mul] at h
  exact Nat.lt_of_le_of_lt (Nat.le_mul_of_pos_left _ (Int.natAbs_pos.mpr h0)) h
theorem cdiv_ok {g : Int} (h0 : g ≠ 0) (h : g.natAbs < 2 ^ 3000) (i : Int) : CDivG i g := ⟨h0, logOf (n := 3000) (by decide) h (by decide)⟩
theorem gcd_ne {a b : Int} (h : b ≠ 0) : ((Int.gcd a b : Nat) : Int) ≠ 0 := by
  have := gcdP (t := a) h
  omega
theorem gcd_ltK {a b : Int} {k : Nat} (h : b ≠ 0) (hb : b.natAbs < 2 ^ k) : ((Int.gcd a b : Nat) : Int).natAbs < 2 ^ k := by
  rw [Int.natAbs_natCast]
  exact Nat.lt_of_le_of_lt (Nat.le_of_dvd (Int.natAbs_pos.mpr h) (Nat.gcd_dvd_right ..)) hb
section
variable {P : Program} {w : World} {K : PySem.W.Frag} {mg : Str → Option Value} {base : Heap}
def shortB (d1 d2 : Int) : Bool := decide (((Builtin.Int.intBits d1 : Nat) : Int) + ((Builtin.Int.intBits d2 : Nat) : Int) ≤ 256)
theorem short_of {d1 d2 : Int} (h1 : d1.natAbs < 2 ^ 128) (h2 : d2.natAbs < 2 ^ 128) : shortB d1 d2 = true := decide_eq_true (by
  have := bits_le h1
  have := bits_le h2
  omega)
def spAre (K : PySem.W.Frag) : Sp := fun vs H Q _ => ∃ (p q : Addr) (n1 d1 n2 d2 : Int), vs = [.ref p, .ref q] ∧ SqT K H p [.int n1, .int d1] ∧ SqT K H q [.int n2, .int d2] ∧ Q (.bl (shortB d1 d2)) H
theorem scAre : FnScope ["a", "b"] ["a", "b"] (defScope sAre) := ⟨rfl, rfl, rfl, by decide +kernel, rfl, by decide +kernel, by decide +kernel⟩
theorem ok_are {f : Addr} {fd : FuncData} {k : Nat} {tSb : Tok} (F : Fun K "are_short" "are_short" sAre f fd) (gSb : mg "SHORT_BITS" = some (.int 256 tSb)) : FnOk P w K mg base CX0 (k + 1) f fd ["a", "b"] (spAre K) := by
  refine F.ok scAre (fun vs H Q E h => ?_) (fun cdv A outer s H vs Q E hr h => ?_)
  · obtain ⟨_, _, _, _, _, _, rfl, _⟩ := h
    rfl
  · obtain ⟨p, q, n1, d1, n2, d2, rfl, h1, h2, k⟩ := h
    refine ⟨_, pss_one (ps_ret (pe_cmpR op_le (pe_op op_add
        (pe_bm0 PySem.F.plainAttrs_int PySem.F.slot_int_bit_length PySem.F.type_int_bit_length mt_bits (pe_ix ix_tup (pv 0) pe_int (fun _ _ => rfl)))
        (pe_bm0 PySem.F.plainAttrs_int PySem.F.slot_int_bit_length PySem.F.type_int_bit_length mt_bits (pe_ix ix_tup (pv 1) pe_int (fun _ _ => rfl))))
      (pe_glob (v := .int 256) (by rfl) gSb ⟨_, rfl⟩) (nomark _))), ?_⟩
    refine ⟨_, rfl, p, _, 1, _, rfl, rfl, h1, atI_nat (j := 1) rfl, rfl, d1, rfl, rfl, _, rfl, q, _, 1, _, rfl, rfl, h2, atI_nat (j := 1) rfl, rfl, d2, rfl, rfl, _, _, rfl, rfl, _, _, rfl, rfl, k⟩
end
end SS

namespace SS
open PySem PySem.Spec PyProof.Rows L2
/-- a tuple of two numbers, wherever it stands -/
def FrT (K : PySem.W.Frag) (H : Hp) (p : Addr) (n d : Int) : Prop := SqT K H p [.int n, .int d] ∧ TyX K H (.ref p) (.type "tuple")
theorem FrT.of {K : PySem.W.Frag} {H : Hp} {p : Addr} {n d : Int} (h : H p = some (.tup [.int n, .int d])) : FrT K H p n d := ⟨SqT.of h, .base (.tup h)⟩
theorem FrT.new {K : PySem.W.Frag} {H H' : Hp} {p : Addr} {n d : Int} (h : FrT K H p n d) (s : Same H H') : FrT K H' p n d := by
  obtain ⟨h1, h2⟩ := h
  rcases h1 with (h1 | ⟨o, h1⟩) | ⟨o, its, m, k1, k2, k3⟩
  · exact ⟨.inl (.inl (s _ _ h1)), .base (.tup (s _ _ h1))⟩
  · exact ⟨.inl (.inr ⟨o, s _ _ h1⟩), .fTuple (s _ _ h1)⟩
  · exact ⟨.inr ⟨o, its, m, k1, k2, k3⟩, .kTuple k1 k2⟩
theorem FrT.inj {K : PySem.W.Frag} {H : Hp} {p : Addr} {n d : Int} {xs : List V} (h : FrT K H p n d) (e : H p = some (.tup xs)) : True := trivial
end SS
namespace SS
open PySem PySem.Spec PyProof.Rows L2
section
variable {P : Program} {w : World} {K : PySem.W.Frag} {mg : Str → Option Value} {base : Heap}
/-! ### a whole number, a fraction by the law's own look -/
def spWhole : Sp := fun vs H Q _ => ∃ i : Int, vs = [.int i] ∧ Q (.bl true) H
def spIsf (K : PySem.W.Frag) : Sp := fun vs H Q _ => ∃ (p : Addr) (n d : Int), vs = [.ref p] ∧ FrT K H p n d ∧ 0 < d ∧ Int.gcd n d = 1 ∧ ∀ H', Same H H' → Q (.bl true) H'
end
end SS
namespace SS
open PySem PySem.Spec PyProof.Rows L2
section
variable {P : Program} {w : World} {K : PySem.W.Frag} {mg : Str → Option Value} {base : Heap}
/-! ### plus, minus, times, over, is_less -/
/-- two fractions of few bits come in -/
def Two (K : PySem.W.Frag) (H : Hp) (vs : List V) (n1 d1 n2 d2 : Int) : Prop := ∃ p q : Addr, vs = [.ref p, .ref q] ∧ FrT K H p n1 d1 ∧ FrT K H q n2 d2 ∧
  0 < d1 ∧ 0 < d2 ∧ n1.natAbs < 2 ^ 3000 ∧ d1.natAbs < 2 ^ 3000 ∧ n2.natAbs < 2 ^ 3000 ∧ d2.natAbs < 2 ^ 3000 ∧ Int.gcd n1 d1 = 1 ∧ Int.gcd n2 d2 = 1
def spPlus (K : PySem.W.Frag) : Sp := fun vs H Q _ => ∃ n1 d1 n2 d2 : Int, Two K H vs n1 d1 n2 d2 ∧ ∀ r, H r = none → Q (.ref r) (upd H r (.tup [.int (fr1 (n1 * d2 + n2 * d1) (d1 * d2)), .int (fr2 (n1 * d2 + n2 * d1) (d1 * d2))]))
theorem scPlus : FnScope ["a", "b", "shared", "top", "divisor"] ["a", "b"] (defScope sPlus) := ⟨rfl, rfl, rfl, by decide +kernel, rfl, by decide +kernel, by decide +kernel⟩
theorem ok_plus {f C : Addr} {fd : FuncData} (F : Fun K "plus" "plus" sPlus f fd) (fo : Cl P w K mg base (L2.CX P w) 2 "fraction_of" (spFo C) []) (cd : Cl P w K mg base CX0 1 "common_divisor" spGcd []) (ar : Cl P w K mg base CX0 1 "are_short" (spAre K) []) : FnOk P w K mg base CX0 3 f fd ["a", "b"] (spPlus K) := by
  refine F.ok scPlus (fun vs H Q E h => ?_) (fun cdv A outer s H vs Q E hr h => ?_)
  · obtain ⟨_, _, _, _, ⟨p, q, rfl, _⟩, _⟩ := h
    rfl
  · obtain ⟨n1, d1, n2, d2, ⟨p, q, rfl, h1, h2, z1, z2, b1, b2, b3, b4, g1, g2⟩, k⟩ := h
    refine ⟨_, (pss_cons (ps_if (pt_val (pc0 ar hr (by decide) (pa_cons (pv 0) (pa_cons (pv 1) pa_nil))))
        (pss_one (ps_ret (pcX fo hr (by decide) (pa_cons (pe_op op_add (pe_op op_mulW (pe_ix ix_tup (pv 0) pe_int (fun _ _ => rfl)) (pe_ix ix_tup (pv 1) pe_int (fun _ _ => rfl))) (pe_op op_mulW (pe_ix ix_tup (pv 1) pe_int (fun _ _ => rfl)) (pe_ix ix_tup (pv 0) pe_int (fun _ _ => rfl)))) (pa_cons (pe_op op_mulW (pe_ix ix_tup (pv 0) pe_int (fun _ _ => rfl)) (pe_ix ix_tup (pv 1) pe_int (fun _ _ => rfl))) pa_nil))))) pss_nil)
      (pss_cons (ps_set (i := 2) scPlus.nd rfl (.inl rfl) (pc0 cd hr (by decide) (pa_cons (pe_ix ix_tup (pv 0) pe_int (fun _ _ => rfl)) (pa_cons (pe_ix ix_tup (pv 1) pe_int (fun _ _ => rfl)) pa_nil))))
      (pss_cons (ps_set (i := 3) scPlus.nd rfl (.inl rfl) (pe_op op_add (pe_op op_mulW (pe_ix ix_tup (pv 0) pe_int (fun _ _ => rfl)) (pe_op op_fdivG (pe_ix ix_tup (pv 1) pe_int (fun _ _ => rfl)) (pv 2))) (pe_op op_mulW (pe_ix ix_tup (pv 1) pe_int (fun _ _ => rfl)) (pe_op op_fdivG (pe_ix ix_tup (pv 0) pe_int (fun _ _ => rfl)) (pv 2)))))
      (pss_cons (ps_set (i := 4) scPlus.nd rfl (.inl rfl) (pc0 cd hr (by decide) (pa_cons (pv 3) (pa_cons (pv 2) pa_nil))))
      (pss_one (ps_ret (pe_tup (pa_cons (pe_op op_fdivG (pv 3) (pv 4)) (pa_cons (pe_op op_mulW (pe_op op_fdivG (pe_ix ix_tup (pv 0) pe_int (fun _ _ => rfl)) (pv 2)) (pe_op op_fdivG (pe_ix ix_tup (pv 1) pe_int (fun _ _ => rfl)) (pv 4))) pa_nil))))))))), ?_⟩
    refine ⟨_, rfl, _, rfl, p, q, n1, d1, n2, d2, rfl, h1.1, h2.1, _, rfl, ite2 (fun _ => ?_) (fun _ => ?_)⟩
    · refine ⟨_, rfl, p, _, 0, _, rfl, rfl, h1.1, atI_nat (j := 0) rfl, _, rfl, q, _, 1, _, rfl, rfl, h2.1, atI_nat (j := 1) rfl, n1, d2, rfl, rfl, wide_mul b1 b4 (by decide) (by decide) (by decide), ?_⟩
      refine ⟨_, rfl, q, _, 0, _, rfl, rfl, h2.1, atI_nat (j := 0) rfl, _, rfl, p, _, 1, _, rfl, rfl, h1.1, atI_nat (j := 1) rfl, n2, d1, rfl, rfl, wide_mul b3 b2 (by decide) (by decide) (by decide), _, _, rfl, rfl, ?_⟩
      refine ⟨_, rfl, p, _, 1, _, rfl, rfl, h1.1, atI_nat (j := 1) rfl, _, rfl, q, _, 1, _, rfl, rfl, h2.1, atI_nat (j := 1) rfl, d1, d2, rfl, rfl, wide_mul b2 b4 (by decide) (by decide) (by decide), ?_⟩
      exact ⟨n1 * d2 + n2 * d1, d1 * d2, rfl, fun e => absurd e (pos_ne z1 z2), fun _ => ⟨sm_mono (sm_mul b2 b4) (by decide), k⟩⟩
    · have d20 : d2 ≠ 0 := Int.ne_of_gt z2
      have s0 : plD d1 d2 ≠ 0 := gcd_ne d20
      have sl : (plD d1 d2).natAbs < 2 ^ 3000 := gcd_ltK d20 b4
      have G0 : plG n1 d1 n2 d2 ≠ 0 := gcd_ne s0
      have Gl : (plG n1 d1 n2 d2).natAbs < 2 ^ 3000 := gcd_ltK s0 sl
      have sd1 : plD d1 d2 ∣ d1 := Int.gcd_dvd_left d1 d2
      have sd2 : plD d1 d2 ∣ d2 := Int.gcd_dvd_right d1 d2
      have Gd2 : plG n1 d1 n2 d2 ∣ d2 := Int.dvd_trans (Int.gcd_dvd_right (plT n1 d1 n2 d2) (plD d1 d2)) sd2
      refine ⟨_, rfl, p, _, 1, _, rfl, rfl, h1.1, atI_nat (j := 1) rfl, _, rfl, q, _, 1, _, rfl, rfl, h2.1, atI_nat (j := 1) rfl, d1, d2, rfl, ?_⟩
      refine ⟨_, rfl, p, _, 0, _, rfl, rfl, h1.1, atI_nat (j := 0) rfl, _, rfl, q, _, 1, _, rfl, rfl, h2.1, atI_nat (j := 1) rfl, _, rfl, d2, plD d1 d2, rfl, rfl, cdiv_ok s0 sl d2, n1, d2.fdiv (plD d1 d2), rfl, rfl, wide_mul b1 (dv_lt sd2 s0 b4) (by decide) (by decide) (by decide), ?_⟩
      refine ⟨_, rfl, q, _, 0, _, rfl, rfl, h2.1, atI_nat (j := 0) rfl, _, rfl, p, _, 1, _, rfl, rfl, h1.1, atI_nat (j := 1) rfl, _, rfl, d1, plD d1 d2, rfl, rfl, cdiv_ok s0 sl d1, n2, d1.fdiv (plD d1 d2), rfl, rfl, wide_mul b3 (dv_lt sd1 s0 b2) (by decide) (by decide) (by decide), _, _, rfl, rfl, ?_⟩
      refine ⟨_, rfl, _, rfl, plT n1 d1 n2 d2, plD d1 d2, rfl, ?_⟩
      refine ⟨_, rfl, _, rfl, plT n1 d1 n2 d2, plG n1 d1 n2 d2, rfl, rfl, cdiv_ok G0 Gl _, ?_⟩
      refine ⟨_, rfl, p, _, 1, _, rfl, rfl, h1.1, atI_nat (j := 1) rfl, _, rfl, d1, plD d1 d2, rfl, rfl, cdiv_ok s0 sl d1, _, rfl, q, _, 1, _, rfl, rfl, h2.1, atI_nat (j := 1) rfl, _, rfl, d2, plG n1 d1 n2 d2, rfl, rfl, cdiv_ok G0 Gl d2, d1.fdiv (plD d1 d2), d2.fdiv (plG n1 d1 n2 d2), rfl, rfl, wide_mul (dv_lt sd1 s0 b2) (dv_lt Gd2 G0 b4) (by decide) (by decide) (by decide), small2, ?_⟩
      have e := plus_long z1 z2 g1 g2
      rw [← e.1, ← e.2] at k
      exact k
def spTimes (K : PySem.W.Frag) : Sp := fun vs H Q _ => ∃ n1 d1 n2 d2 : Int, Two K H vs n1 d1 n2 d2 ∧ ∀ r, H r = none → Q (.ref r) (upd H r (.tup [.int (fr1 (n1 * n2) (d1 * d2)), .int (fr2 (n1 * n2) (d1 * d2))]))
end
end SS

namespace SS
open PySem PySem.Spec PyProof.Rows L2
section
variable {P : Program} {w : World} {K : PySem.W.Frag} {mg : Str → Option Value} {base : Heap}
theorem scTimes : FnScope ["a", "b", "one", "other"] ["a", "b"] (defScope sTimes) := ⟨rfl, rfl, rfl, by decide +kernel, rfl, by decide +kernel, by decide +kernel⟩
theorem ok_times {f C : Addr} {fd : FuncData} (F : Fun K "times" "times" sTimes f fd) (fo : Cl P w K mg base (L2.CX P w) 2 "fraction_of" (spFo C) []) (cd : Cl P w K mg base CX0 1 "common_divisor" spGcd []) (ar : Cl P w K mg base CX0 1 "are_short" (spAre K) []) : FnOk P w K mg base CX0 3 f fd ["a", "b"] (spTimes K) := by
  refine F.ok scTimes (fun vs H Q E h => ?_) (fun cdv A outer s H vs Q E hr h => ?_)
  · obtain ⟨_, _, _, _, ⟨p, q, rfl, _⟩, _⟩ := h
    rfl
  · obtain ⟨n1, d1, n2, d2, ⟨p, q, rfl, h1, h2, z1, z2, b1, b2, b3, b4, g1, g2⟩, k⟩ := h
    refine ⟨_, (pss_cons (ps_if (pt_val (pc0 ar hr (by decide) (pa_cons (pv 0) (pa_cons (pv 1) pa_nil))))
        (pss_one (ps_ret (pcX fo hr (by decide) (pa_cons (pe_op op_mulW (pe_ix ix_tup (pv 0) pe_int (fun _ _ => rfl)) (pe_ix ix_tup (pv 1) pe_int (fun _ _ => rfl))) (pa_cons (pe_op op_mulW (pe_ix ix_tup (pv 0) pe_int (fun _ _ => rfl)) (pe_ix ix_tup (pv 1) pe_int (fun _ _ => rfl))) pa_nil))))) pss_nil)
      (pss_cons (ps_par (i := 2) (j := 3) rfl scTimes.nd rfl rfl (by decide) rfl rfl (pa_cons (pc0 cd hr (by decide) (pa_cons (pe_ix ix_tup (pv 0) pe_int (fun _ _ => rfl)) (pa_cons (pe_ix ix_tup (pv 1) pe_int (fun _ _ => rfl)) pa_nil))) (pa_cons (pc0 cd hr (by decide) (pa_cons (pe_ix ix_tup (pv 1) pe_int (fun _ _ => rfl)) (pa_cons (pe_ix ix_tup (pv 0) pe_int (fun _ _ => rfl)) pa_nil))) pa_nil)) rfl)
      (pss_one (ps_ret (pe_tup (pa_cons (pe_op op_mulW (pe_op op_fdivG (pe_ix ix_tup (pv 0) pe_int (fun _ _ => rfl)) (pv 2)) (pe_op op_fdivG (pe_ix ix_tup (pv 1) pe_int (fun _ _ => rfl)) (pv 3))) (pa_cons (pe_op op_mulW (pe_op op_fdivG (pe_ix ix_tup (pv 0) pe_int (fun _ _ => rfl)) (pv 3)) (pe_op op_fdivG (pe_ix ix_tup (pv 1) pe_int (fun _ _ => rfl)) (pv 2))) pa_nil))))))), ?_⟩
    refine ⟨_, rfl, _, rfl, p, q, n1, d1, n2, d2, rfl, h1.1, h2.1, _, rfl, ite2 (fun _ => ?_) (fun _ => ?_)⟩
    · refine ⟨_, rfl, p, _, 0, _, rfl, rfl, h1.1, atI_nat (j := 0) rfl, _, rfl, q, _, 0, _, rfl, rfl, h2.1, atI_nat (j := 0) rfl, n1, n2, rfl, rfl, wide_mul b1 b3 (by decide) (by decide) (by decide), ?_⟩
      refine ⟨_, rfl, p, _, 1, _, rfl, rfl, h1.1, atI_nat (j := 1) rfl, _, rfl, q, _, 1, _, rfl, rfl, h2.1, atI_nat (j := 1) rfl, d1, d2, rfl, rfl, wide_mul b2 b4 (by decide) (by decide) (by decide), ?_⟩
      exact ⟨n1 * n2, d1 * d2, rfl, fun e => absurd e (pos_ne z1 z2), fun _ => ⟨sm_mono (sm_mul b2 b4) (by decide), k⟩⟩
    · have d10 : d1 ≠ 0 := Int.ne_of_gt z1
      have d20 : d2 ≠ 0 := Int.ne_of_gt z2
      have a0 := gcd_ne (a := n1) d20
      have al := gcd_ltK (a := n1) d20 b4
      have c0 := gcd_ne (a := n2) d10
      have cl := gcd_ltK (a := n2) d10 b2
      have e := times_long z1 z2 g1 g2
      have m1 := dv_lt (Int.gcd_dvd_left n1 d2) a0 b1
      have m2 := dv_lt (Int.gcd_dvd_right n1 d2) a0 b4
      have m3 := dv_lt (Int.gcd_dvd_left n2 d1) c0 b3
      have m4 := dv_lt (Int.gcd_dvd_right n2 d1) c0 b2
      refine ⟨_, rfl, p, _, 0, _, rfl, rfl, h1.1, atI_nat (j := 0) rfl, _, rfl, q, _, 1, _, rfl, rfl, h2.1, atI_nat (j := 1) rfl, n1, d2, rfl, _, rfl, q, _, 0, _, rfl, rfl, h2.1, atI_nat (j := 0) rfl, _, rfl, p, _, 1, _, rfl, rfl, h1.1, atI_nat (j := 1) rfl, n2, d1, rfl, _, _, rfl, ?_⟩
      generalize ((Int.gcd n1 d2 : Nat) : Int) = a at *
      generalize ((Int.gcd n2 d1 : Nat) : Int) = c at *
      refine ⟨_, rfl, p, _, 0, _, rfl, rfl, h1.1, atI_nat (j := 0) rfl, _, rfl, n1, a, rfl, rfl, cdiv_ok a0 al n1, _, rfl, q, _, 0, _, rfl, rfl, h2.1, atI_nat (j := 0) rfl, _, rfl, n2, c, rfl, rfl, cdiv_ok c0 cl n2, n1.fdiv a, n2.fdiv c, rfl, rfl, wide_mul m1 m3 (by decide) (by decide) (by decide), ?_⟩
      refine ⟨_, rfl, p, _, 1, _, rfl, rfl, h1.1, atI_nat (j := 1) rfl, _, rfl, d1, c, rfl, rfl, cdiv_ok c0 cl d1, _, rfl, q, _, 1, _, rfl, rfl, h2.1, atI_nat (j := 1) rfl, _, rfl, d2, a, rfl, rfl, cdiv_ok a0 al d2, d1.fdiv c, d2.fdiv a, rfl, rfl, wide_mul m4 m2 (by decide) (by decide) (by decide), small2, ?_⟩
      rw [← e.1, ← e.2] at k
      exact k
end
end SS

namespace SS
open PySem PySem.Spec PyProof.Rows L2
section
variable {P : Program} {w : World} {K : PySem.W.Frag} {mg : Str → Option Value} {base : Heap}
end
end SS

namespace SS
open PySem PySem.Spec PyProof.Rows L2
/-! ### names: texts of one to six small letters -/
def NmOk (x : Str) : Prop := 0 < x.cps.toList.length ∧ x.cps.toList.length < 7 ∧ ∀ c ∈ x.cps.toList, 97 ≤ c ∧ c ≤ 122
instance (x : Str) : Decidable (NmOk x) := inferInstanceAs (Decidable (_ ∧ _ ∧ _))
abbrev abc : Str := "abcdefghijklmnopqrstuvwxyz"
abbrev ownL : List Str := ["is", "most", "least", "below", "above", "tell", "open", "none", "first", "point", "mark", "x"]
theorem own_ok : ∀ x ∈ ownL, NmOk x := by decide +kernel
theorem abc_len : abc.length = 26 := by decide +kernel
theorem abc_at : ∀ i : Nat, i < 26 → abc.cps[i]? = some (97 + i) := by decide +kernel
theorem join_ones : ∀ cs : List Nat, (Txt.join "" (cs.map fun c => (⟨#[c]⟩ : Str))).cps.toList = cs := fun cs => by
  have e := eq_of_beq (PyProof.Rows.join_plain_closes "" (cs.map fun c => (⟨#[c]⟩ : Str)))
  rw [e]
  have e2 : ∀ l : List (List Nat), TL.joinL [] l = l.flatten := fun l => by
    induction l with
    | nil => rfl
    | cons p r ih =>
      cases r with
      | nil => simp [TL.joinL]
      | cons q r => simp only [TL.joinL, List.nil_append, ih, List.flatten_cons]
  have e3 := TL.tl_join "" (cs.map fun c => (⟨#[c]⟩ : Str))
  refine e3.trans ?_
  rw [show TL.tl "" = [] from rfl, e2, List.map_map]
  clear e e3 e2
  induction cs with
  | nil => rfl
  | cons c cs ih =>
    rw [List.map_cons, List.flatten_cons]
    show c :: _ = c :: cs
    exact congrArg _ ih
/-- x * n of a text, n from 1 to 3 -/
theorem op_mulS {X : Cx} : OpR X (binaryOp .Mult) (fun x y H Q => ∃ (z : Str) (n : Int), x = .str z ∧ y = .int n ∧ 1 ≤ n ∧ n ≤ 3 ∧ z.length ≤ 6 ∧ ∀ z' : Str, z'.cps.toList = (List.replicate n.toNat z.cps.toList).flatten → Q (.str z') H) := by
  intro pins s σ H x y v u Q I rx ry h
  obtain ⟨z, n, rfl, rfl, n1, n3, zl, q⟩ := h
  obtain ⟨t, rfl⟩ := rx
  obtain ⟨t', rfl⟩ := ry
  refine P.mul_str ?_ (fun _ _ => ?_) (fun _ _ => ?_) ?_
  · rw [decide_eq_false (by omega), decide_eq_false (by omega)]
    rfl
  · have : n = 1 ∨ n = 2 ∨ n = 3 := by omega
    rcases this with e | e | e <;> subst e <;> omega
  · have : n = 1 ∨ n = 2 ∨ n = 3 := by omega
    have zz : ∀ m : Nat, m ≤ 18 → Builtin.Str.tooLong m = false := fun m hm => by
      unfold Builtin.Str.tooLong
      exact decide_eq_false (by
        have : sizeLine = 16777216 := sizeLine_eq
        omega)
    rcases this with e | e | e <;> subst e <;> exact zz _ (by simp; omega)
  · rw [if_neg (by omega)]
    by_cases c : (n == 1 || z.length == 0) = true
    · rw [if_pos c]
      refine ⟨.str z, H, I, ⟨t, rfl⟩, q z ?_⟩
      rw [Bool.or_eq_true, beq_iff_eq, beq_iff_eq] at c
      rcases c with c | c
      · subst c
        simp
      · have : z.cps.toList = [] := by
          apply List.eq_nil_of_length_eq_zero
          rw [Array.length_toList]
          exact c
        rw [this]
        simp
    · rw [if_neg c]
      have : n = 1 ∨ n = 2 ∨ n = 3 := by omega
      have sl : sizeLine = 16777216 := sizeLine_eq
      have zl' : z.cps.size ≤ 6 := zl
      refine ⟨?_, ⟨.str _, H, I.tok _, ⟨_, rfl⟩, q _ ?_⟩⟩
      · show Array.size _ ≤ sizeLine
        rw [sl]
        rcases this with e | e | e <;> subst e <;> simp [List.replicate] <;> omega
      · rcases this with e | e | e <;> subst e <;> simp [List.replicate]
end SS

namespace SS
open PySem PySem.Spec PyProof.Rows L2
theorem lt8 {n : Int} (h : n.natAbs < 2 ^ 100) : n.natAbs < 2 ^ 8000 := sm_mono h (by decide)
theorem cut1S {z : Str} (h : 0 < z.cps.toList.length) : (cutS z none (some 1)).cps.toList = z.cps.toList.take 1 := by
  unfold cutS
  have hl : z.length = z.cps.toList.length := by
    rw [Array.length_toList]
    rfl
  rw [HT.sIx_none, show HT.sIx z.length z.length (some 1) = min 1 z.length from HT.sIx_nat z.length z.length 1, hl, Nat.min_eq_left h]
  rfl
theorem NmOk.cut {z : Str} (h : NmOk z) : NmOk (cutS z none (some 1)) := by
  obtain ⟨h1, h2, h3⟩ := h
  unfold NmOk
  rw [cut1S h1, List.length_take]
  exact ⟨by omega, by omega, fun c hc => h3 c (List.mem_of_mem_take hc)⟩
theorem NmOk.len {z : Str} (h : NmOk z) : z.length ≤ sizeLine := by
  have e : z.length = z.cps.toList.length := by
    rw [Array.length_toList]
    rfl
  have sl : sizeLine = 16777216 := sizeLine_eq
  have := h.2.1
  omega
theorem at_str {xs : List Str} {d : Int} (h0 : 0 ≤ d) (h : d < xs.length) : ∃ x, x ∈ xs ∧ atI (xs.map V.str) d = some (.str x) := by
  have hn : d.toNat < xs.length := by omega
  refine ⟨xs[d.toNat], List.getElem_mem hn, at_of (j := d.toNat) (by omega) ?_⟩
  rw [List.getElem?_map, List.getElem?_eq_getElem hn]
  rfl
section
variable {P : Program} {w : World} {K : PySem.W.Frag} {mg : Str → Option Value} {base : Heap}
def spSname : Sp := fun vs H Q _ => ∃ st c : Addr, vs = [.ref st] ∧ StA st c H ∧ ∀ H' x, But st H H' → StA st c H' → NmOk x → Q (.str x) H'
theorem scSname : FnScope ["_law_state", "_law_letters", "_law_own", "_law_way", "_law_word", "_law_k"] ["_law_state"] (defScope sSname) := ⟨rfl, rfl, rfl, by decide +kernel, rfl, by decide +kernel, by decide +kernel⟩
theorem ok_sname {f : Addr} {fd : FuncData} (F : Fun K "_law_some_name" "_law_some_name" sSname f fd) (mr : mg "range" = none) (tk : Cl P w K mg base CX0 3 "_law_take" spTake []) : FnOk P w K mg base CX0 4 f fd ["_law_state"] spSname := by
  refine F.ok scSname (fun vs H Q E h => ?_) (fun cdv A outer s H vs Q E hr h => ?_)
  · obtain ⟨_, _, rfl, _⟩ := h
    rfl
  · obtain ⟨st, c, rfl, sa, q⟩ := h
    refine ⟨_, pss_cons (ps_set (i := 1) scSname.nd rfl (.inr rfl) pe_str)
      (pss_cons (ps_set (i := 2) scSname.nd rfl (.inl rfl) (pe_tup (pa_cons pe_str (pa_cons pe_str (pa_cons pe_str (pa_cons pe_str (pa_cons pe_str (pa_cons pe_str (pa_cons pe_str (pa_cons pe_str (pa_cons pe_str (pa_cons pe_str (pa_cons pe_str (pa_cons pe_str pa_nil))))))))))))))
      (pss_cons (ps_set (i := 3) scSname.nd rfl (.inl rfl) (pc0 tk hr (by decide) (pa_cons (pv 0) (pa_cons pe_int pa_nil))))
      (pss_cons (ps_set (i := 4) scSname.nd rfl (.inl rfl) (pe_join pe_str
        (pe_lc (own := [("_law_k", 5)]) (g := gName 5) (tt := tYes) rfl scSname.nd (pi_range1 rfl mr (pa_cons (pe_op op_add pe_int (pc0 tk hr (by decide) (pa_cons (pv 0) (pa_cons pe_int pa_nil)))) pa_nil)) (blkOk_by (by rfl))
          (fun _ _ _ _ _ => pg_name (i := 5) scSname.nd rfl (Or.inl rfl)) (fun _ _ _ _ _ => pts_nil)
          (fun _ _ _ _ _ => pe_item_str (pv 1) (pc0 tk hr (by decide) (pa_cons (pv 0) (pa_cons pe_int pa_nil))) (fun _ _ => rfl)))))
      (pss_one (ps_ret (pe_ix ix_tup (pe_tup (pa_cons (pv 4) (pa_cons (pe_ix ix_tup (pv 2) (pc0 tk hr (by decide) (pa_cons (pv 0) (pa_cons pe_int pa_nil))) (fun _ _ => rfl)) (pa_cons (pe_slice sl_str (pv 4) po_none (po_some pe_int)) (pa_cons (pv 4) pa_nil))))) (pv 3) (fun _ _ => rfl))))))), ?_⟩
    refine ⟨by show 12 ≤ sizeLine; decide, fun U nU => ?_⟩
    have sU := same_new (o := .tup (ownL.map V.str)) nU
    refine ⟨_, rfl, st, c, 4, rfl, by decide, lt8 (by decide), sa.same sU, fun H1 wy b1 s1 l1 u1 => ?_⟩
    have hU1 : H1 U = some (.tup (ownL.map V.str)) := b1.tup (sa.same sU) upd_same
    refine ⟨⟨_, rfl⟩, _, rfl, st, c, 6, rfl, by decide, lt8 (by decide), s1, fun H2 d2 b2 s2 l2 u2 => ⟨1, d2, rfl, rfl, 1 + d2, rfl, by omega, by omega, fun D nD => ?_⟩⟩
    have hU2 : H2 U = some (.tup (ownL.map V.str)) := b2.tup s1 hU1
    have Ds := s2.fresh nD
    have Dc := s2.fresh2 nD
    refine lc_range (lo := 0) (n := (1 + d2).toNat) (fun i H' => ∃ cs : List Nat, H' D = some (.lst ((cs.map fun c => (⟨#[c]⟩ : Str)).map V.str)) ∧ cs.length = i ∧ (∀ c ∈ cs, 97 ≤ c ∧ c ≤ 122) ∧ StA st c H' ∧ ∀ b o, b ≠ st → b ≠ D → H2 b = some o → H' b = some o)
      ⟨[], upd_same, rfl, fun c hc => absurd hc List.not_mem_nil, s2.other Ds Dc, fun b o _ nb e => by rw [upd_ne nb]; exact e⟩ ?_ ?_
    · rintro i H3 hi ⟨cs, k1, k2, k3, k4, k5⟩
      refine ⟨rfl, _, rfl, _, rfl, st, c, 26, rfl, by decide, lt8 (by decide), k4, fun H4 d4 b4 s4 l4 u4 => ?_⟩
      have hD4 := b4 _ _ Ds k1
      refine ⟨abc, d4, 97 + d4.toNat, rfl, rfl, l4, by omega, by rw [abc_len]; omega, abc_at _ (by omega), _, hD4, ?_, cs ++ [97 + d4.toNat], ?_, ?_, ?_, s4.other Ds Dc, ?_⟩
      · rw [List.length_map, List.length_map, k2]
        exact small1000 (by omega)
      · rw [upd_same, List.map_append, List.map_append]
        rfl
      · rw [List.length_append, k2]
        rfl
      · intro x hx
        rcases List.mem_append.mp hx with z | z
        · exact k3 x z
        · rw [List.mem_singleton.mp z]
          omega
      · intro b o n1 n2 e
        rw [upd_ne n2]
        exact b4 b o n1 (k5 b o n1 n2 e)
    · rintro H3 ⟨cs, k1, k2, k3, k4, k5⟩
      refine ⟨_, D, cs.map fun c => (⟨#[c]⟩ : Str), rfl, rfl, .inl (SqL.of k1), ?_, ?_⟩
      · have e1 : ((cs.map fun c => (⟨#[c]⟩ : Str)).map (·.length)).sum = cs.length := by
          rw [List.map_map]
          clear k1 k2 k3
          induction cs with
          | nil => rfl
          | cons a r ih =>
            rw [List.map_cons, List.sum_cons, ih, List.length_cons]
            show 1 + r.length = r.length + 1
            omega
        rw [e1, List.length_map, k2]
        show (1 + d2).toNat + (1 + d2).toNat * 0 ≤ 16777216
        omega
      have hw : NmOk (Txt.join "" (cs.map fun c => (⟨#[c]⟩ : Str))) := by
        unfold NmOk
        rw [join_ones, k2]
        exact ⟨by omega, by omega, k3⟩
      generalize Txt.join "" (cs.map fun c => (⟨#[c]⟩ : Str)) = word at hw
      have hU3 := k5 U _ (s1.tup hU1 ) (fun e => by
        rw [e, nD] at hU2
        cases hU2) hU2
      refine ⟨_, rfl, _, rfl, _, rfl, st, c, 12, rfl, by decide, lt8 (by decide), k4, fun H5 d5 b5 s5 l5 u5 => ?_⟩
      obtain ⟨ow, ho1, ho2⟩ := at_str (xs := ownL) l5 u5
      refine ⟨U, _, d5, _, rfl, rfl, SqT.of (b5.tup k4 hU3), ho2, _, rfl, 1, rfl, word, rfl, hw.len, _, rfl, by show 4 ≤ sizeLine; decide, fun T nT => ?_⟩
      have sT := same_new (o := .tup [.str word, .str ow, .str (cutS word none (some 1)), .str word]) nT
      obtain ⟨x, hx1, hx2⟩ : ∃ x, NmOk x ∧ atI [V.str word, V.str ow, V.str (cutS word none (some 1)), V.str word] wy = some (.str x) := by
        rcases (show wy = 0 ∨ wy = 1 ∨ wy = 2 ∨ wy = 3 by omega) with e | e | e | e <;> subst e
        · exact ⟨_, hw, rfl⟩
        · exact ⟨_, own_ok _ ho1, rfl⟩
        · exact ⟨_, hw.cut, rfl⟩
        · exact ⟨_, hw, rfl⟩
      refine ⟨_, rfl, T, _, wy, _, rfl, rfl, SqT.of upd_same, hx2, q _ x ?_ (s5.same sT) hx1⟩
      intro b o nb e
      refine sT _ _ (b5 _ _ nb (k5 _ _ nb ?_ (b2 _ _ nb (b1 _ _ nb (sU _ _ e)))))
      intro z
      have e2 := b2 _ _ nb (b1 _ _ nb (sU _ _ e))
      rw [z, nD] at e2
      cases e2
end
end SS

namespace SS
open PySem PySem.Spec PyProof.Rows L2
section
variable {P : Program} {w : World} {K : PySem.W.Frag} {mg : Str → Option Value} {base : Heap}
def spNames : Sp := fun vs H Q _ => ∃ (st c : Addr) (many : Int), vs = [.ref st, .int many] ∧ 0 ≤ many ∧ many ≤ 10 ∧ StA st c H ∧
  ∀ H' l (xs : List Str), But st H H' → StA st c H' → H l = none → H' l = some (.lst (xs.map V.str)) → (xs.length : Int) = many → (∀ x ∈ xs, NmOk x) → Q (.ref l) H'
theorem scNames : FnScope ["_law_state", "_law_many", "_law_letters", "_law_names_here", "_law_k", "_law_name", "_law_turns"] ["_law_state", "_law_many"] (defScope sNames) := ⟨rfl, rfl, rfl, by decide +kernel, rfl, by decide +kernel, by decide +kernel⟩
theorem flat_strs (xs : List Str) : (xs.map V.str).all flatV = true := by
  rw [List.all_map]
  exact List.all_eq_true.mpr fun _ _ => rfl
theorem ok_names {f : Addr} {fd : FuncData} (F : Fun K "_law_names" "_law_names" sNames f fd) (mr : mg "range" = none) (sn : Cl P w K mg base CX0 4 "_law_some_name" spSname []) : FnOk P w K mg base CX0 5 f fd ["_law_state", "_law_many"] spNames := by
  refine F.ok scNames (fun vs H Q E h => ?_) (fun cdv A outer s H vs Q E hr h => ?_)
  · obtain ⟨_, _, _, rfl, _⟩ := h
    rfl
  · obtain ⟨st, c, many, rfl, m0, m1, sa, q⟩ := h
    refine ⟨_, pss_cons (ps_set (i := 2) scNames.nd rfl (.inl rfl) pe_str)
      (pss_cons (ps_set (i := 3) scNames.nd rfl (.inl rfl) (pe_lst pa_nil))
      (pss_cons (ps_for PassesOwn.never rfl (pi_range1 rfl mr (pa_cons (pv 1) pa_nil)) (pg_name (i := 4) scNames.nd rfl (.inl rfl))
        (pss_cons (ps_set (i := 5) scNames.nd rfl (.inl rfl) (pc0 sn hr (by decide) (pa_cons (pv 0) pa_nil)))
        (pss_cons (ps_set (i := 6) scNames.nd rfl (.inl rfl) pe_int)
        (pss_cons (ps_while PassesOwn.never (PW.pt (pw_and (pt_cmpR op_in_seq (pv 5) (pv 3) rfl) (pw_and1 (pt_cmpR op_lt (pv 6) pe_int (nomark _)))))
          (pss_cons (ps_set (i := 5) scNames.nd rfl (.inl rfl) (pe_op op_mulS (pe_item_str (pv 2) (pe_op op_mod (pe_op op_add (pe_op op_mul pe_int (pv 6)) (pv 4)) pe_int) (fun _ _ => rfl)) (pe_op op_add pe_int (pe_op op_fdiv (pv 6) pe_int))))
          (pss_one (ps_aug (i := 6) scNames.nd rfl (.inl rfl) pe_int ip_add))))
        (pss_one (ps_expr (pe_bm PySem.F.plainAttrs_list PySem.F.slot_list_append PySem.F.type_list_append mt_append (pv 3) (pa_cons (pv 5) pa_nil))))))))
      (pss_one (ps_ret (pv 3))))), ?_⟩
    refine ⟨Nat.zero_le _, fun l nl => ?_⟩
    have ls := sa.fresh nl
    have lc := sa.fresh2 nl
    refine ⟨_, rfl, many, rfl, by omega, by omega, for_range (n := many.toNat) (fun i σ H' => ∃ (y4 y5 y6 : Option V) (xs : List Str), σ = [some (.ref st), some (.int many), some (.str abc), some (.ref l), y4, y5, y6] ∧ But st H H' ∧ StA st c H' ∧ H' l = some (.lst (xs.map V.str)) ∧ xs.length = i ∧ ∀ x ∈ xs, NmOk x)
      ⟨none, none, none, [], rfl, Same.but (same_new nl), sa.same (same_new nl), upd_same, rfl, fun x hx => absurd hx List.not_mem_nil⟩ ?_ ?_⟩
    · rintro i σ H1 hi ⟨y4, y5, y6, xs, rfl, bt, s1, hl, hn, hx⟩
      refine ⟨_, rfl, st, c, rfl, s1, fun H2 x b2 s2 ok => ?_⟩
      have hl2 := b2 _ _ ls hl
      refine ⟨fun m σ H' => ∃ (nm : Str) (tn : Int), σ = [some (.ref st), some (.int many), some (.str abc), some (.ref l), some (.int (0 + (i : Nat))), some (.str nm), some (.int tn)] ∧ H' = H2 ∧ NmOk nm ∧ 0 ≤ tn ∧ m = (60 - tn).toNat,
        ⟨60, x, 0, rfl, rfl, ok, by decide, rfl⟩, fun m σ H3 hW => ?_⟩
      obtain ⟨nm, tn, rfl, rfl, okn, t0, rfl⟩ := hW
      refine ⟨_, rfl, _, rfl, l, _, rfl, .inl (SqL.of hl2), rfl, flat_strs xs, _, rfl, ite2 (fun e => ?n1) (fun e => iteF ?ex1)⟩
      case' n1 => refine ⟨_, rfl, tn, 60, rfl, rfl, _, rfl, ite2 (fun e2 => ?_) (fun e2 => ?ex2)⟩
      case ex1 | ex2 =>
        refine ⟨.ref l, rfl, .inl ⟨rfl, _, SqL.of hl2⟩, _, rfl, l, _, _, rfl, rfl, hl2, ?_, ?_⟩
        · rw [List.length_map, hn]
          exact small1000 (by omega)
        · refine ⟨_, _, _, xs ++ [nm], rfl, ?_, s2.other ls lc, ?_, ?_, ?_⟩
          · intro b o nb e
            rw [upd_ne fun z => ?_]
            · exact (bt.trans b2) b o nb e
            · rw [z, nl] at e
              cases e
          · rw [upd_same, List.map_append]
            rfl
          · rw [List.length_append, hn]
            rfl
          · intro y hy
            rcases List.mem_append.mp hy with z | z
            · exact hx y z
            · rw [List.mem_singleton.mp z]
              exact okn
      · have e' : tn < 60 := of_decide_eq_true e2
        refine ⟨fun σ' H' => ∃ (nm : Str) (tn' : Int), σ' = [some (.ref st), some (.int many), some (.str abc), some (.ref l), some (.int (0 + (i : Nat))), some (.str nm), some (.int tn')] ∧ H' = H3 ∧ NmOk nm ∧ 0 ≤ tn' ∧ tn' = tn + 1, fun σ' H' hN => ?_, ?_⟩
        · obtain ⟨a1, a2, r1, r2, r3, r4, r5⟩ := hN
          exact ⟨_, by omega, a1, a2, r1, r2, r3, r4, rfl⟩
        · have q1 : 0 ≤ (7 * tn + (0 + (i : Int))) % 26 := Int.emod_nonneg _ (by decide)
          have q2 : (7 * tn + (0 + (i : Int))) % 26 < 26 := Int.emod_lt_of_pos _ (by decide)
          refine ⟨_, rfl, _, rfl, 7, tn, rfl, rfl, .inl ⟨by decide, by decide⟩, _, rfl, 7 * tn, 0 + (i : Int), rfl, rfl, _, 26, rfl, rfl, (by show (0 : Int) < 26; decide), abc, (7 * tn + (0 + (i : Int))) % 26, _, rfl, rfl, q1, by omega, by rw [abc_len]; omega, abc_at _ (by omega), ?_⟩
          refine ⟨_, rfl, tn, 26, rfl, rfl, ⟨by decide, by decide⟩, 1, tn / 26, rfl, rfl, _, 1 + tn / 26, rfl, rfl, by omega, by omega, by show 1 ≤ 6; decide, fun z hz => ?_⟩
          refine ⟨_, rfl, _, _, rfl, rfl, z, tn + 1, rfl, rfl, ?_, by omega, rfl⟩
          unfold NmOk
          have ec : ((1 + tn / 26).toNat) = 1 ∨ ((1 + tn / 26).toNat) = 2 ∨ ((1 + tn / 26).toNat) = 3 := by omega
          rw [hz]
          rcases ec with e3 | e3 | e3 <;> rw [e3] <;> simp [List.replicate] <;> omega
    · rintro σ H1 ⟨y4, y5, y6, xs, rfl, bt, s1, hl, hn, hx⟩
      exact ⟨_, rfl, q H1 l xs bt s1 nl hl (by omega) hx⟩
end
end SS

namespace SS
open PySem PySem.Spec PyProof.Rows L2
/-- a fraction in lowest terms, of few bits -/
def Frg (k : Nat) (H : Hp) (p : Addr) : Prop := ∃ n d : Int, H p = some (.tup [.int n, .int d]) ∧ 0 < d ∧ n.natAbs < 2 ^ k ∧ d.natAbs < 2 ^ k ∧ Int.gcd n d = 1
theorem Frg.same {k : Nat} {p : Addr} {H H' : Hp} (s : Frg k H p) (x : Same H H') : Frg k H' p := by
  obtain ⟨n, d, h1, h2⟩ := s
  exact ⟨n, d, x _ _ h1, h2⟩
theorem Frg.but {k : Nat} {st c p : Addr} {H H' : Hp} (s : Frg k H p) (x : But st H H') (y : StA st c H) : Frg k H' p := by
  obtain ⟨n, d, h1, h2⟩ := s
  exact ⟨n, d, x.tup y h1, h2⟩
theorem Frg.mono {k j : Nat} {p : Addr} {H : Hp} (s : Frg k H p) (h : k ≤ j) : Frg j H p := by
  obtain ⟨n, d, h1, h2, h3, h4, h5⟩ := s
  exact ⟨n, d, h1, h2, sm_mono h3 h, sm_mono h4 h, h5⟩
/-- a dict changes: the tuples stand -/
theorem Frg.dict {k : Nat} {p a : Addr} {H : Hp} {kvs : List (Key × V)} {o : HO} (s : Frg k H p) (h : H a = some (.dK kvs)) : Frg k (upd H a o) p := by
  obtain ⟨n, d, h1, h2⟩ := s
  refine ⟨n, d, ?_, h2⟩
  rw [upd_ne fun e => ?_]
  · exact h1
  · rw [e, h] at h1
    cases h1
theorem frg_new {H : Hp} {r : Addr} {t b : Int} {k : Nat} (h : b ≠ 0) (ht : t.natAbs < 2 ^ k) (hb : b.natAbs < 2 ^ k) : Frg k (upd H r (.tup [.int (fr1 t b), .int (fr2 t b)])) r :=
  ⟨_, _, upd_same, fr2_pos h, Nat.lt_of_le_of_lt (fr1_le h) ht, Nat.lt_of_le_of_lt (fr2_le h) hb, fr_gcd h⟩
def fval (H : Hp) : V → Int × Int
  | .ref r => match H r with
    | some (.tup [.int n, .int d]) => (n, d)
    | _ => (0, 1)
  | _ => (0, 1)
theorem fval_at {H : Hp} {r : Addr} {n d : Int} (h : H r = some (.tup [.int n, .int d])) : fval H (.ref r) = (n, d) := by
  simp only [fval, h]
theorem Frg.val {k : Nat} {H : Hp} {r : Addr} (h : Frg k H r) : H r = some (.tup [.int (fval H (.ref r)).1, .int (fval H (.ref r)).2]) ∧ 0 < (fval H (.ref r)).2 ∧ (fval H (.ref r)).1.natAbs < 2 ^ k ∧ (fval H (.ref r)).2.natAbs < 2 ^ k ∧ Int.gcd (fval H (.ref r)).1 (fval H (.ref r)).2 = 1 := by
  obtain ⟨n, d, h1, h2⟩ := h
  rw [fval_at h1]
  exact ⟨h1, h2⟩
theorem Frg.fval {k : Nat} {H H' : Hp} {r : Addr} (h : Frg k H r) (e : ∀ xs, H r = some (.tup xs) → H' r = some (.tup xs)) : SS.fval H' (.ref r) = SS.fval H (.ref r) := by
  obtain ⟨n, d, h1, _⟩ := h
  rw [fval_at h1, fval_at (e _ h1)]
/-! ### dicts from names to fractions -/
def DF (k m : Nat) (H : Hp) (a : Addr) (kvs : List (Key × V)) : Prop := H a = some (.dK kvs) ∧ (kvs.map (·.1)).Nodup ∧ kvs.length ≤ m ∧ ∀ p ∈ kvs, ∃ x r, p.1 = .inr x ∧ NmOk x ∧ p.2 = .ref r ∧ Frg k H r
def NZ (H : Hp) (kvs : List (Key × V)) : Prop := ∀ p ∈ kvs, (fval H p.2).1 ≠ 0
theorem mem_putK {kvs : List (Key × V)} {k : Key} {v : V} {p : Key × V} (h : p ∈ putK kvs k v) : p ∈ kvs ∨ p = (k, v) := by
  unfold putK at h
  split at h
  · obtain ⟨q, hq, e⟩ := List.mem_map.mp h
    split at e
    · rename_i e1
      rw [e1] at e
      exact .inr e.symm
    · rw [← e]
      exact .inl hq
  · rcases List.mem_append.mp h with z | z
    · exact .inl z
    · exact .inr (List.mem_singleton.mp z)
theorem nd_put {kvs : List (Key × V)} (k : Key) (v : V) (h : (kvs.map (·.1)).Nodup) : ((putK kvs k v).map (·.1)).Nodup := by
  cases e : valV kvs k with
  | none => exact nd_putK v h e
  | some u =>
    unfold putK
    rw [valV_any, e]
    show ((kvs.map fun kv => if kv.1 = k then (kv.1, v) else kv).map (·.1)).Nodup
    rw [List.map_map]
    have q : ((fun x : Key × V => x.1) ∘ fun kv : Key × V => if kv.1 = k then (kv.1, v) else kv) = fun kv => kv.1 := by
      funext kv
      show (if kv.1 = k then (kv.1, v) else kv).1 = kv.1
      split <;> rfl
    rw [q]
    exact h
theorem DF.same {k m : Nat} {H H' : Hp} {a : Addr} {kvs : List (Key × V)} (h : DF k m H a kvs) (s : Same H H') : DF k m H' a kvs := by
  obtain ⟨h1, h2, h3, h4⟩ := h
  refine ⟨s _ _ h1, h2, h3, fun p hp => ?_⟩
  obtain ⟨x, r, e1, e2, e3, e4⟩ := h4 p hp
  exact ⟨x, r, e1, e2, e3, e4.same s⟩
theorem DF.ne {k m : Nat} {H : Hp} {st c a : Addr} {kvs : List (Key × V)} (h : DF k m H a kvs) (y : StA st c H) : a ≠ st := fun e => by
  obtain ⟨i, n, f, xs, h1, _⟩ := y
  have z := h.1
  rw [e, h1] at z
  cases z
theorem DF.but {k m : Nat} {H H' : Hp} {st c a : Addr} {kvs : List (Key × V)} (h : DF k m H a kvs) (s : But st H H') (y : StA st c H) : DF k m H' a kvs := by
  have na := h.ne y
  obtain ⟨h1, h2, h3, h4⟩ := h
  refine ⟨s _ _ na h1, h2, h3, fun p hp => ?_⟩
  obtain ⟨x, r, e1, e2, e3, e4⟩ := h4 p hp
  exact ⟨x, r, e1, e2, e3, e4.but s y⟩
theorem NZ.but {k m : Nat} {H H' : Hp} {st c a : Addr} {kvs : List (Key × V)} (z : NZ H kvs) (h : DF k m H a kvs) (s : But st H H') (y : StA st c H) : NZ H' kvs := fun p hp => by
  obtain ⟨x, r, e1, e2, e3, e4⟩ := h.2.2.2 p hp
  rw [e3, e4.fval fun xs e => s.tup y e, ← e3]
  exact z p hp
theorem NZ.same {k m : Nat} {H H' : Hp} {a : Addr} {kvs : List (Key × V)} (z : NZ H kvs) (h : DF k m H a kvs) (s : Same H H') : NZ H' kvs := fun p hp => by
  obtain ⟨x, r, e1, e2, e3, e4⟩ := h.2.2.2 p hp
  rw [e3, e4.fval fun xs e => s _ _ e, ← e3]
  exact z p hp
theorem DF.put {k m : Nat} {H : Hp} {a : Addr} {kvs : List (Key × V)} {x : Str} {r : Addr} (h : DF k m H a kvs) (hx : NmOk x) (hr : Frg k H r) (hl : kvs.length < m) : DF k m (upd H a (.dK (putK kvs (.inr x) (.ref r)))) a (putK kvs (.inr x) (.ref r)) := by
  obtain ⟨h1, h2, h3, h4⟩ := h
  refine ⟨upd_same, nd_put _ _ h2, Nat.le_trans (length_putK ..) hl, fun p hp => ?_⟩
  rcases mem_putK hp with z | z
  · obtain ⟨y, r', e1, e2, e3, e4⟩ := h4 p z
    exact ⟨y, r', e1, e2, e3, e4.dict h1⟩
  · subst z
    exact ⟨x, r, rfl, hx, rfl, hr.dict h1⟩
theorem NZ.put {k m : Nat} {H : Hp} {a : Addr} {kvs : List (Key × V)} {x : Str} {r : Addr} (z : NZ H kvs) (h : DF k m H a kvs) (hr : Frg k H r) (hz : (fval H (.ref r)).1 ≠ 0) : NZ (upd H a (.dK (putK kvs (.inr x) (.ref r)))) (putK kvs (.inr x) (.ref r)) := fun p hp => by
  have keep : ∀ r' xs, H r' = some (.tup xs) → (upd H a (.dK (putK kvs (.inr x) (.ref r)))) r' = some (.tup xs) := fun r' xs e => by
    rw [upd_ne fun c => ?_]
    · exact e
    · rw [c, h.1] at e
      cases e
  rcases mem_putK hp with y | y
  · obtain ⟨_, r', e1, e2, e3, e4⟩ := h.2.2.2 p y
    rw [e3, e4.fval (keep r'), ← e3]
    exact z p y
  · subst y
    rw [hr.fval (keep r)]
    exact hz
theorem strs_ne {st c u : Addr} {H : Hp} {xs : List Str} (y : StA st c H) (h : H u = some (.lst (xs.map V.str))) : u ≠ st := fun e => by
  obtain ⟨i, n, f, ys, h1, _⟩ := y
  rw [e, h1] at h
  have z := HO.lst.inj (Option.some.inj h)
  cases xs with
  | nil => cases z
  | cons a r => cases (List.cons.inj z).1
section
variable {P : Program} {w : World} {K : PySem.W.Frag} {mg : Str → Option Value} {base : Heap}
def spNumber : Sp := fun vs H Q _ => ∃ st c : Addr, vs = [.ref st] ∧ StA st c H ∧ ∀ H' p, But st H H' → StA st c H' → Frg 20 H' p → Q (.ref p) H'
theorem scNumber : FnScope ["_law_state", "_law_way", "_law_small", "_law_great", "_law_under"] ["_law_state"] (defScope sNumber) := ⟨rfl, rfl, rfl, by decide +kernel, rfl, by decide +kernel, by decide +kernel⟩
theorem ok_number {f : Addr} {fd : FuncData} (F : Fun K "_law_number" "_law_number" sNumber f fd) (tk : Cl P w K mg base CX0 3 "_law_take" spTake []) (fc : Cl P w K mg base CX0 2 "_law_frac" spFrac []) : FnOk P w K mg base CX0 4 f fd ["_law_state"] spNumber := by
  refine F.ok scNumber (fun vs H Q E h => ?_) (fun cdv A outer s H vs Q E hr h => ?_)
  · obtain ⟨_, _, rfl, _⟩ := h
    rfl
  · obtain ⟨st, c, rfl, sa, q⟩ := h
    refine ⟨_, pss_cons (ps_set (i := 1) scNumber.nd rfl (.inl rfl) (pc0 tk hr (by decide) (pa_cons (pv 0) (pa_cons pe_int pa_nil))))
      (pss_cons (ps_set (i := 2) scNumber.nd rfl (.inl rfl) (pe_op op_sub (pc0 tk hr (by decide) (pa_cons (pv 0) (pa_cons pe_int pa_nil))) pe_int))
      (pss_cons (ps_set (i := 3) scNumber.nd rfl (.inl rfl) (pe_op op_sub (pc0 tk hr (by decide) (pa_cons (pv 0) (pa_cons pe_int pa_nil))) pe_int))
      (pss_cons (ps_set (i := 4) scNumber.nd rfl (.inl rfl) (pe_op op_add pe_int (pc0 tk hr (by decide) (pa_cons (pv 0) (pa_cons pe_int pa_nil)))))
      (pss_cons (ps_if (pt_cmpR op_eq (pv 1) pe_int (nomark _)) (pss_one (ps_ret (pe_tup (pa_cons pe_int (pa_cons pe_int pa_nil))))) pss_nil)
      (pss_cons (ps_if (pt_cmpR op_eq (pv 1) pe_int (nomark _)) (pss_one (ps_ret (pc0 fc hr (by decide) (pa_cons (pv 3) (pa_cons (pv 4) pa_nil))))) pss_nil)
      (pss_cons (ps_if (pt_cmpR op_eq (pv 1) pe_int (nomark _)) (pss_one (ps_ret (pc0 fc hr (by decide) (pa_cons (pv 2) (pa_cons (pe_op op_add pe_int (pe_op op_mod (pv 4) pe_int)) pa_nil))))) pss_nil)
      (pss_one (ps_ret (pe_tup (pa_cons (pv 2) (pa_cons pe_int pa_nil))))))))))), ?_⟩
    refine ⟨_, rfl, st, c, 6, rfl, by decide, lt8 (by decide), sa, fun H1 d1 b1 s1 l1 u1 => ?_⟩
    refine ⟨_, rfl, st, c, 13, rfl, by decide, lt8 (by decide), s1, fun H2 d2 b2 s2 l2 u2 => ⟨_, _, rfl, rfl, ?_⟩⟩
    refine ⟨_, rfl, st, c, 1999, rfl, by decide, lt8 (by decide), s2, fun H3 d3 b3 s3 l3 u3 => ⟨_, _, rfl, rfl, ?_⟩⟩
    refine ⟨_, rfl, st, c, 99, rfl, by decide, lt8 (by decide), s3, fun H4 d4 b4 s4 l4 u4 => ⟨_, _, rfl, rfl, ?_⟩⟩
    have bb := ((b1.trans b2).trans b3).trans b4
    refine ⟨_, rfl, rfl, _, rfl, ite2 (fun _ => ?_) (fun _ => ?_)⟩
    · refine ⟨small2, fun p np => q _ p (bb.trans (Same.but (same_new np))) (s4.same (same_new np)) ⟨0, 1, upd_same, by decide, by decide, by decide, by decide⟩⟩
    · refine ⟨_, rfl, rfl, _, rfl, ite2 (fun _ => ?_) (fun _ => ?_)⟩
      · have n1 : 1 + d4 ≠ 0 := by omega
        have n2 : (1 + d4).natAbs < 2 ^ 20 := by omega
        refine ⟨_, rfl, _, rfl, d3 - 999, 1 + d4, rfl, n1, sm_mono n2 (by decide), fun p np => q _ p (bb.trans (Same.but (same_new np))) (s4.same (same_new np)) (frg_new n1 (by omega) n2)⟩
      · refine ⟨_, rfl, rfl, _, rfl, ite2 (fun _ => ?_) (fun _ => ?_)⟩
        · have n1 : 1 + (1 + d4) % 4 ≠ 0 := by omega
          have n2 : (1 + (1 + d4) % 4).natAbs < 2 ^ 20 := by omega
          refine ⟨_, rfl, _, rfl, 1 + d4, 4, rfl, rfl, (by show (0 : Int) < 4; decide), 1, (1 + d4) % 4, rfl, rfl, d2 - 6, 1 + (1 + d4) % 4, rfl, n1, sm_mono n2 (by decide), fun p np => q _ p (bb.trans (Same.but (same_new np))) (s4.same (same_new np)) (frg_new n1 (by omega) n2)⟩
        · refine ⟨_, rfl, small2, fun p np => q _ p (bb.trans (Same.but (same_new np))) (s4.same (same_new np)) ⟨d2 - 6, 1, upd_same, by decide, by omega, by decide, Int.gcd_one_right _⟩⟩
end
end SS

namespace SS
open PySem PySem.Spec PyProof.Rows L2
section
variable {P : Program} {w : World} {K : PySem.W.Frag} {mg : Str → Option Value} {base : Heap}
/-! ### a drawn sum -/
def spSsum : Sp := fun vs H Q _ => ∃ (st c u : Addr) (xs : List Str), vs = [.ref st, .ref u] ∧ StA st c H ∧ H u = some (.lst (xs.map V.str)) ∧ xs.length ≤ 9 ∧ (∀ x ∈ xs, NmOk x) ∧
  ∀ H' a kvs, But st H H' → StA st c H' → H a = none → DF 20 xs.length H' a kvs → NZ H' kvs → Q (.ref a) H'
theorem scSsum : FnScope ["_law_state", "_law_unknowns", "_law_way", "_law_found", "_law_key", "_law_number_here"] ["_law_state", "_law_unknowns"] (defScope sSsum) := ⟨rfl, rfl, rfl, by decide +kernel, rfl, by decide +kernel, by decide +kernel⟩
theorem ok_ssum {f : Addr} {fd : FuncData} (F : Fun K "_law_some_sum" "_law_some_sum" sSsum f fd) (ml : mg "len" = none) (tk : Cl P w K mg base CX0 3 "_law_take" spTake []) (nm : Cl P w K mg base CX0 4 "_law_number" spNumber []) : FnOk P w K mg base CX0 5 f fd ["_law_state", "_law_unknowns"] spSsum := by
  refine F.ok scSsum (fun vs H Q E h => ?_) (fun cdv A outer s H vs Q E hr h => ?_)
  · obtain ⟨_, _, _, _, rfl, _⟩ := h
    rfl
  · obtain ⟨st, c, u, xs, rfl, sa, hu0, hl, hx, q⟩ := h
    have hu := hu_of hr
    refine ⟨_, pss_cons (ps_set (i := 2) scSsum.nd rfl (.inl rfl) (pc0 tk hr (by decide) (pa_cons (pv 0) (pa_cons pe_int pa_nil))))
      (pss_cons (ps_set (i := 3) scSsum.nd rfl (.inl rfl) pe_dnewK)
      (pss_cons (ps_for PassesOwn.never rfl (pi_list (pv 1)) (pg_name (i := 4) scSsum.nd rfl (.inl rfl))
        (pss_cons (ps_set (i := 5) scSsum.nd rfl (.inl rfl) (pc0 nm hr (by decide) (pa_cons (pv 0) pa_nil)))
        (pss_one (ps_if (PW.pt (pw_and (pt_cmpR op_ne (pe_ix ix_tup (pv 5) pe_int (fun _ _ => rfl)) pe_int (nomark _))
          (pw_and1 (PW.pt (pw_or (pt_cmpR op_gt (pv 2) pe_int (nomark _)) (pw_or1 (pt_cmpR op_eq (pc0 tk hr (by decide) (pa_cons (pv 0) (pa_cons pe_int pa_nil))) pe_int (nomark _))))))))
          (pss_one (ps_dput hu (pv 3) (pv 4) (pv 5) rfl)) pss_nil))))
      (pss_cons (ps_if (pt_cmpR op_eq (pv 2) pe_int (nomark _)) (pss_one (ps_ret pe_dnewK)) pss_nil)
      (pss_cons (ps_if (PW.pt (pw_and (pt_cmpR (op_eq0 hr.units) (pv 3) pe_dnewK (nomark _)) (pw_and (pt_cmpR op_gt (pv 2) pe_int (nomark _))
          (pw_and1 (pt_cmpR op_gt (pe_callB call_len_seq (by rfl) ml PySem.boot_len (pa_cons (pv 1) pa_nil)) pe_int (nomark _))))))
        (pss_one (ps_dput hu (pv 3) (pe_ix ix_list (pv 1) (pc0 tk hr (by decide) (pa_cons (pv 0) (pa_cons (pe_callB call_len_seq (by rfl) ml PySem.boot_len (pa_cons (pv 1) pa_nil)) pa_nil))) (fun _ _ => rfl))
          (pe_tup (pa_cons (pe_op op_sub pe_int (pe_op op_mul pe_int (pc0 tk hr (by decide) (pa_cons (pv 0) (pa_cons pe_int pa_nil))))) (pa_cons pe_int pa_nil))) rfl)) pss_nil)
      (pss_one (ps_ret (pv 3))))))), ?_⟩
    have nu := strs_ne sa hu0
    refine ⟨_, rfl, st, c, 8, rfl, by decide, lt8 (by decide), sa, fun H1 wy b1 s1 l1 u1 => ?_⟩
    intro a na1
    have as1 := s1.fresh na1
    have ac1 := s1.fresh2 na1
    have na : H a = none := by
      cases e : H a with
      | none => rfl
      | some o =>
        have z := b1 a o (fun z => as1 z) e
        rw [na1] at z
        cases z
    have sn := same_new (o := .dK []) na1
    have hu1 : (upd H1 a (.dK [])) u = some (.lst (xs.map V.str)) := sn _ _ (b1 _ _ nu hu0)
    refine ⟨_, rfl, u, rfl, ⟨_, SqL.of hu1⟩, for_list (K := K) (a := u) (xs := xs.map V.str) (fun i σ H' => ∃ (y4 y5 : Option V) (kvs : List (Key × V)), σ = [some (.ref st), some (.ref u), some (.int wy), some (.ref a), y4, y5] ∧ But st H H' ∧ StA st c H' ∧ DF 20 i H' a kvs ∧ NZ H' kvs)
      ⟨none, none, [], rfl, b1.trans (Same.but sn), s1.same sn, ⟨upd_same, List.nodup_nil, Nat.le_refl _, fun p hp => absurd hp List.not_mem_nil⟩, fun p hp => absurd hp List.not_mem_nil⟩ ?_ ?_ ?_⟩
    · rintro i σ H' _ ⟨_, _, _, _, bt, _⟩
      exact SqL.of (bt _ _ nu hu0)
    · rintro i y σ H2 hy ⟨y4, y5, kvs, rfl, bt, s2, df, nz⟩
      obtain ⟨x, hxi, rfl⟩ : ∃ x, x ∈ xs ∧ y = .str x := by
        rw [List.getElem?_map] at hy
        cases e : xs[i]? with
        | none =>
          rw [e] at hy
          cases hy
        | some x =>
          rw [e] at hy
          exact ⟨x, List.mem_of_getElem? e, (Option.some.inj hy).symm⟩
      have hi : i < xs.length := by
        have z := (List.getElem?_eq_some_iff.mp hy).1
        rw [List.length_map] at z
        exact z
      have dm : ∀ {H'}, DF 20 i H' a kvs → DF 20 (i + 1) H' a kvs := fun h => ⟨h.1, h.2.1, Nat.le_succ_of_le h.2.2.1, h.2.2.2⟩
      refine ⟨_, rfl, st, c, rfl, s2, fun H3 p b3 s3 fp => ?_⟩
      have df3 := df.but b3 s2
      have nz3 := nz.but df b3 s2
      obtain ⟨v1, v2, v3, v4, v5⟩ := fp.val
      refine ⟨_, rfl, p, _, 0, _, rfl, rfl, SqT.of v1, atI_nat (j := 0) rfl, rfl, _, rfl, ite2 (fun e => ?_) (fun e => iteF ?_)⟩
      · have n0 : (fval H3 (.ref p)).1 ≠ 0 := fun z => by
          rw [z] at e
          exact absurd e (by decide)
        have fin : ∀ H4, But st H3 H4 → StA st c H4 → ∃ (y4 y5 : Option V) (kvs' : List (Key × V)), [some (V.ref st), some (.ref u), some (.int wy), some (.ref a), some (.str x), some (.ref p)] = [some (.ref st), some (.ref u), some (.int wy), some (.ref a), y4, y5] ∧ But st H (upd H4 a (.dK (putK kvs (.inr x) (.ref p)))) ∧ StA st c (upd H4 a (.dK (putK kvs (.inr x) (.ref p)))) ∧ DF 20 (i + 1) (upd H4 a (.dK (putK kvs (.inr x) (.ref p)))) a kvs' ∧ NZ (upd H4 a (.dK (putK kvs (.inr x) (.ref p)))) kvs' := fun H4 b4 s4 => by
          have df4 := df3.but b4 s3
          refine ⟨_, _, _, rfl, ?_, s4.other as1 ac1, (dm df4).put (hx x hxi) (fp.but b4 s3) (Nat.lt_succ_of_le df.2.2.1), (nz3.but df3 b4 s3).put df4 (fp.but b4 s3) ?_⟩
          · intro b o nb e4
            rw [upd_ne fun z => ?_]
            · exact ((bt.trans b3).trans b4) b o nb e4
            · rw [z, na] at e4
              cases e4
          · rw [fp.fval fun ys e5 => b4.tup s3 e5]
            exact n0
        refine ⟨_, rfl, wy, 4, rfl, rfl, _, rfl, ite2 (fun e2 => iteT ?_) (fun e2 => ?_)⟩
        · refine ⟨_, rfl, _, rfl, _, rfl, a, _, rfl, DPut.k (k := .inr x) df3.1 (small1000 (Nat.le_trans df3.2.2.1 (by omega))), ?_⟩
          exact fin H3 (But.refl _ _) s3
        · refine ⟨_, rfl, st, c, 2, rfl, by decide, lt8 (by decide), s3, fun H4 d4 b4 s4 l4 u4 => ⟨rfl, _, rfl, ite2 (fun e3 => ?_) (fun e3 => ?_)⟩⟩
          · have df4 := df3.but b4 s3
            refine ⟨_, rfl, _, rfl, _, rfl, a, _, rfl, DPut.k (k := .inr x) df4.1 (small1000 (Nat.le_trans df4.2.2.1 (by omega))), ?_⟩
            exact fin H4 b4 s4
          · exact ⟨_, _, kvs, rfl, (bt.trans b3).trans b4, s4, dm (df3.but b4 s3), nz3.but df3 b4 s3⟩
      · exact ⟨_, _, kvs, rfl, bt.trans b3, s3, dm df3, nz3⟩
    · rintro σ H2 ⟨y4, y5, kvs, rfl, bt, s2, df, nz⟩
      rw [List.length_map] at df
      have dm : DF 20 xs.length H2 a kvs := df
      have hu2 := bt _ _ nu hu0
      refine ⟨_, rfl, rfl, _, rfl, ite2 (fun e => ?_) (fun e => ?_)⟩
      · intro a2 na2
        have s3 := same_new (o := .dK []) na2
        have a2n : H a2 = none := by
          cases e : H a2 with
          | none => rfl
          | some o =>
            have z := bt a2 o (s2.fresh na2) e
            rw [na2] at z
            cases z
        exact q _ a2 [] (bt.trans (Same.but s3)) (s2.same s3) a2n ⟨upd_same, List.nodup_nil, Nat.zero_le _, fun p hp => absurd hp List.not_mem_nil⟩ fun p hp => absurd hp List.not_mem_nil
      · refine ⟨_, rfl, fun a3 na3 => ?_⟩
        have s3 := same_new (o := .dK []) na3
        have df3 := dm.same s3
        have nz3 := nz.same df s3
        have b3 : But st H (upd H2 a3 (.dK [])) := bt.trans (Same.but s3)
        have sa3 := s2.same s3
        have hu3 := s3 _ _ hu2
        have ha3 : (upd H2 a3 (.dK [])) a3 = some (.dK []) := upd_same
        generalize upd H2 a3 (.dK []) = H3 at s3 df3 nz3 b3 sa3 hu3 ha3 ⊢
        have el : ((xs.map V.str).length : Int) = (xs.length : Int) := by rw [List.length_map]
        refine ⟨a, a3, kvs, rfl, rfl, df3.1, ha3, _, rfl, ite2 (fun e2 => ?n1) (fun e2 => iteF ?r1)⟩
        case' n1 => refine ⟨_, rfl, wy, 1, rfl, rfl, _, rfl, ite2 (fun e3 => ?n2) (fun e3 => iteF ?r2)⟩
        case' n2 => refine ⟨_, rfl, u, _, rfl, .inl (SqL.of hu3), (xs.length : Int), 0, congrArg V.int el, rfl, _, rfl, ite2 (fun e4 => ?_) (fun e4 => ?r3)⟩
        case r1 | r2 | r3 => exact ⟨_, rfl, q _ a kvs b3 sa3 na df3 nz3⟩
        have lp : 0 < (xs.length : Int) := of_decide_eq_true e4
        refine ⟨_, rfl, st, c, 2, rfl, by decide, lt8 (by decide), sa3, fun H4 d4 b4 s4 l4 u4 => ⟨2, d4, rfl, rfl, .inl ⟨by decide, by decide⟩, 1, 2 * d4, rfl, rfl, small2, fun T nT => ?_⟩⟩
        have sT := same_new (o := .tup [.int (1 - 2 * d4), .int 1]) nT
        have hT : (upd H4 T (.tup [.int (1 - 2 * d4), .int 1])) T = some (.tup [.int (1 - 2 * d4), .int 1]) := upd_same
        have fT : Frg 20 (upd H4 T (.tup [.int (1 - 2 * d4), .int 1])) T := ⟨_, _, hT, by decide, by omega, by decide, Int.gcd_one_right _⟩
        have df5 := (df3.but b4 sa3).same sT
        have nz5 := (nz3.but df3 b4 sa3).same (df3.but b4 sa3) sT
        have b5 := (b3.trans b4).trans (Same.but (st := st) sT)
        have s5 := s4.same sT
        have hu5 := sT _ _ (b4 _ _ nu hu3)
        have vT := fval_at hT
        generalize upd H4 T (.tup [.int (1 - 2 * d4), .int 1]) = H5 at fT df5 nz5 b5 s5 hu5 vT ⊢
        refine ⟨_, rfl, _, rfl, _, rfl, _, rfl, u, _, rfl, .inl (SqL.of hu5), st, c, (xs.length : Int), congrArg (fun z => [V.ref st, V.int z]) el, lp, lt8 (by omega), s5, fun H6 d6 b6 s6 l6 u6 => ?_⟩
        obtain ⟨x, hxi, hat⟩ := at_str (xs := xs) l6 u6
        have df6 := df5.but b6 s5
        have f6 := fT.but b6 s5
        have k0 : kvs.length < xs.length := by
          have z : kvs.length = 0 := eq_of_beq e2
          omega
        refine ⟨u, _, d6, _, rfl, rfl, SqL.of (b6 _ _ nu hu5), hat, a, _, rfl, DPut.k (k := .inr x) df6.1 (small1000 (by omega)), _, rfl, ?_⟩
        refine q _ a _ ?_ (s6.other as1 ac1) na (df6.put (hx x hxi) f6 k0) ((nz5.but df5 b6 s5).put df6 f6 ?_)
        · intro b o nb e9
          rw [upd_ne fun z => ?_]
          · exact (b5.trans b6) b o nb e9
          · rw [z, na] at e9
            cases e9
        · rw [fT.fval fun ys e5 => b6.tup s5 e5, vT]
          show 1 - 2 * d4 ≠ 0
          omega
end
end SS

namespace SS
open PySem PySem.Spec PyProof.Rows L2
def fplus (a b : Int × Int) : Int × Int := (fr1 (a.1 * b.2 + b.1 * a.2) (a.2 * b.2), fr2 (a.1 * b.2 + b.1 * a.2) (a.2 * b.2))
def ftimes (a b : Int × Int) : Int × Int := (fr1 (a.1 * b.1) (a.2 * b.2), fr2 (a.1 * b.1) (a.2 * b.2))
def Okb (k : Nat) (a : Int × Int) : Prop := 0 < a.2 ∧ a.1.natAbs < 2 ^ k ∧ a.2.natAbs < 2 ^ k ∧ Int.gcd a.1 a.2 = 1
theorem Okb.mono {k j : Nat} {a : Int × Int} (h : Okb k a) (l : k ≤ j) : Okb j a := ⟨h.1, sm_mono h.2.1 l, sm_mono h.2.2.1 l, h.2.2.2⟩
theorem okb_times {a b : Int × Int} {k j : Nat} (ha : Okb k a) (hb : Okb j b) : Okb (k + j) (ftimes a b) := by
  have nz : a.2 * b.2 ≠ 0 := pos_ne ha.1 hb.1
  exact ⟨fr2_pos nz, Nat.lt_of_le_of_lt (fr1_le nz) (sm_mul ha.2.1 hb.2.1), Nat.lt_of_le_of_lt (fr2_le nz) (sm_mul ha.2.2.1 hb.2.2.1), fr_gcd nz⟩
theorem okb_plus {a b : Int × Int} {k j : Nat} (ha : Okb k a) (hb : Okb j b) : Okb (k + j + 1) (fplus a b) := by
  have nz : a.2 * b.2 ≠ 0 := pos_ne ha.1 hb.1
  have t1 : (a.1 * b.2).natAbs < 2 ^ (k + j) := sm_mul ha.2.1 hb.2.2.1
  have t2 : (b.1 * a.2).natAbs < 2 ^ (k + j) := by
    rw [Int.mul_comm]
    exact sm_mul ha.2.2.1 hb.2.1
  exact ⟨fr2_pos nz, Nat.lt_of_le_of_lt (fr1_le nz) (sm_add t1 t2), Nat.lt_of_le_of_lt (fr2_le nz) (sm_mono (sm_mul ha.2.2.1 hb.2.2.1) (Nat.le_succ _)), fr_gcd nz⟩
theorem okb_zero (k : Nat) : Okb (k + 1) (0, 1) := ⟨by decide, by show 0 < 2 ^ (k + 1); exact Nat.pow_pos (by decide), by show 1 < 2 ^ (k + 1); exact Nat.one_lt_pow (by omega) (by decide), by decide⟩
theorem Frg.okb {k : Nat} {H : Hp} {r : Addr} (h : Frg k H r) : Okb k (SS.fval H (.ref r)) := h.val.2
theorem mem_valV {ls : List (Key × V)} {k : Key} {v : V} (h : valV ls k = some v) : ∃ p ∈ ls, p.1 = k ∧ p.2 = v := by
  unfold valV at h
  cases e : ls.find? fun kv => decide (kv.1 = k) with
  | none =>
    rw [e] at h
    cases h
  | some p =>
    rw [e] at h
    exact ⟨p, List.mem_of_find?_eq_some e, of_decide_eq_true (List.find?_some (p := fun kv : Key × V => decide (kv.1 = k)) e), Option.some.inj h⟩
theorem FrT.unlock {K : PySem.W.Frag} {H : Hp} {a p : Addr} {n d : Int} {od : Obj} {kvs : List (Key × V)} {o : HO} (h : FrT K H p n d) (ha : H a = some (.frz od (.dK kvs))) : FrT K (upd H a o) p n d := by
  obtain ⟨h1, h2⟩ := h
  rcases h1 with (h1 | ⟨o1, h1⟩) | ⟨o1, its, m, k1, k2, k3⟩
  · have e : (upd H a o) p = some (.tup [.int n, .int d]) := by
      rw [upd_ne fun z => ?_]
      · exact h1
      · rw [z, ha] at h1
        cases h1
    exact FrT.of e
  · have e : (upd H a o) p = some (.frz o1 (.tup [.int n, .int d])) := by
      rw [upd_ne fun z => ?_]
      · exact h1
      · rw [z, ha] at h1
        cases h1
    exact ⟨.inl (.inr ⟨o1, e⟩), .fTuple e⟩
  · exact ⟨.inr ⟨o1, its, m, k1, k2, k3⟩, .kTuple k1 k2⟩
end SS

namespace SS
open PySem PySem.Spec PyProof.Rows L2
section
variable {P : Program} {w : World} {K : PySem.W.Frag} {mg : Str → Option Value} {base : Heap}
def spTurned : Sp := fun vs H Q _ => ∃ (p : Addr) (n d : Int), vs = [.ref p] ∧ H p = some (.tup [.int n, .int d]) ∧ ∀ r, H r = none → Q (.ref r) (upd H r (.tup [.int (0 - n), .int d]))
theorem scTurned : FnScope ["_law_a"] ["_law_a"] (defScope sTurned) := ⟨rfl, rfl, rfl, by decide +kernel, rfl, by decide +kernel, by decide +kernel⟩
theorem ok_turned {f : Addr} {fd : FuncData} {k : Nat} (F : Fun K "_law_turned" "_law_turned" sTurned f fd) : FnOk P w K mg base CX0 (k + 1) f fd ["_law_a"] spTurned := by
  refine F.ok scTurned (fun vs H Q E h => ?_) (fun cdv A outer s H vs Q E hr h => ?_)
  · obtain ⟨_, _, _, rfl, _⟩ := h
    rfl
  · obtain ⟨p, n, d, rfl, hp, q⟩ := h
    refine ⟨_, pss_one (ps_ret (pe_tup (pa_cons (pe_op op_sub pe_int (pe_ix ix_tup (pv 0) pe_int (fun _ _ => rfl))) (pa_cons (pe_ix ix_tup (pv 0) pe_int (fun _ _ => rfl)) pa_nil)))), ?_⟩
    exact ⟨_, rfl, p, _, 0, _, rfl, rfl, SqT.of hp, atI_nat (j := 0) rfl, 0, n, rfl, rfl, _, rfl, p, _, 1, _, rfl, rfl, SqT.of hp, atI_nat (j := 1) rfl, small2, q⟩
end
end SS

namespace SS
open PySem PySem.Spec PyProof.Rows L2
/-! ### fractions added up -/
theorem okb_top0 {B : Nat} {x : Int × Int} (h : Okb B x) (z : x.1 = 0) : x = (0, 1) := by
  obtain ⟨h1, _, _, h4⟩ := h
  rw [z] at h4
  have e : x.2.natAbs = 1 := by
    have q : Int.gcd 0 x.2 = x.2.natAbs := Int.gcd_zero_left ..
    rw [← q]
    exact h4
  have e2 : x.2 = 1 := by omega
  exact Prod.ext z e2
/-- a fraction in lowest terms is its own -/
theorem fr_self {n d : Int} (hd : 0 < d) (g : Int.gcd n d = 1) : fr1 n d = n ∧ fr2 n d = d := by
  have nz : d ≠ 0 := by omega
  have s1 : sgd n d = 1 := by
    unfold sgd
    rw [if_neg (by omega), g]
    rfl
  have a := fr1_eq (t := n) nz
  have b := fr2_eq (t := n) nz
  rw [s1, Int.mul_one] at a b
  exact ⟨a, b⟩
theorem fplus_zero {B : Nat} {x : Int × Int} (h : Okb B x) : fplus x (0, 1) = x := by
  obtain ⟨h1, _, _, h4⟩ := h
  have e := fr_self h1 h4
  show (fr1 (x.1 * 1 + 0 * x.2) (x.2 * 1), fr2 (x.1 * 1 + 0 * x.2) (x.2 * 1)) = x
  rw [Int.mul_one, Int.mul_one, Int.zero_mul, Int.add_zero, e.1, e.2]
theorem zero_fplus {B : Nat} {x : Int × Int} (h : Okb B x) : fplus (0, 1) x = x := by
  obtain ⟨h1, _, _, h4⟩ := h
  have e := fr_self h1 h4
  show (fr1 (0 * x.2 + x.1 * 1) (1 * x.2), fr2 (0 * x.2 + x.1 * 1) (1 * x.2)) = x
  rw [Int.mul_one, Int.one_mul, Int.zero_mul, Int.zero_add, e.1, e.2]
theorem ftimes_one {B : Nat} {x : Int × Int} (h : Okb B x) : ftimes x (1, 1) = x := by
  obtain ⟨h1, _, _, h4⟩ := h
  have e := fr_self h1 h4
  show (fr1 (x.1 * 1) (x.2 * 1), fr2 (x.1 * 1) (x.2 * 1)) = x
  rw [Int.mul_one, Int.mul_one, e.1, e.2]
theorem zero_ftimes {B : Nat} {x : Int × Int} (h : Okb B x) : ftimes (0, 1) x = (0, 1) := by
  have nz : (1 : Int) * x.2 ≠ 0 := by
    have := h.1
    omega
  have ok : Okb (B + 1 + B) (ftimes (0, 1) x) := okb_times (k := B + 1) (okb_zero B) h
  refine okb_top0 ok ?_
  show fr1 (0 * x.1) (1 * x.2) = 0
  have e := fr1_eq (t := 0 * x.1) nz
  rw [Int.zero_mul] at e
  rcases Int.mul_eq_zero.mp e with z | z
  · rw [Int.zero_mul]
    exact z
  · exact absurd z (sgd_ne nz)
/-! ### a dict that holds just what f says -/
/-- all that stands in the dict at a is f's; where it lacks, f is nought; z: no nought stands in it -/
def DM (z : Prop) (m : Nat) (H : Hp) (a : Addr) (kvs : List (Key × V)) (f : Key → Int × Int) : Prop :=
  H a = some (.dK kvs) ∧ (kvs.map (·.1)).Nodup ∧ kvs.length ≤ m ∧
  (∀ p ∈ kvs, (∃ x, p.1 = .inr x ∧ NmOk x) ∧ (∃ r, p.2 = .ref r ∧ H r = some (.tup [.int (f p.1).1, .int (f p.1).2])) ∧ (z → (f p.1).1 ≠ 0)) ∧ ∀ k, valV kvs k = none → f k = (0, 1)
theorem DM.same {z : Prop} {m : Nat} {H H' : Hp} {a : Addr} {kvs : List (Key × V)} {f : Key → Int × Int} (h : DM z m H a kvs f) (s : Same H H') : DM z m H' a kvs f := by
  obtain ⟨h1, h2, h3, h4, h5⟩ := h
  refine ⟨s _ _ h1, h2, h3, fun p hp => ?_, h5⟩
  obtain ⟨e1, ⟨r, e2, e3⟩, e4⟩ := h4 p hp
  exact ⟨e1, ⟨r, e2, s _ _ e3⟩, e4⟩
theorem DM.lk {z : Prop} {m : Nat} {H H' : Hp} {a b : Addr} {kvs ks : List (Key × V)} {f : Key → Int × Int} (h : DM z m H a kvs f) (hb : H b = some (.dK ks)) (n : a ≠ b) (s : ∀ x o, x ≠ b → H x = some o → H' x = some o) : DM z m H' a kvs f := by
  obtain ⟨h1, h2, h3, h4, h5⟩ := h
  refine ⟨s _ _ n h1, h2, h3, fun p hp => ?_, h5⟩
  obtain ⟨e1, ⟨r, e2, e3⟩, e4⟩ := h4 p hp
  refine ⟨e1, ⟨r, e2, s _ _ (fun c => ?_) e3⟩, e4⟩
  rw [c, hb] at e3
  cases e3
theorem DM.get {z : Prop} {m : Nat} {H : Hp} {a : Addr} {kvs : List (Key × V)} {f : Key → Int × Int} {k : Key} {v : V} (h : DM z m H a kvs f) (e : valV kvs k = some v) : ∃ r, v = .ref r ∧ H r = some (.tup [.int (f k).1, .int (f k).2]) := by
  obtain ⟨p, hp, e1, e2⟩ := mem_valV e
  obtain ⟨_, ⟨r, e3, e4⟩, _⟩ := h.2.2.2.1 p hp
  rw [e1] at e4
  exact ⟨r, e2.symm.trans e3, e4⟩
theorem DM.mono {z : Prop} {m n : Nat} {H : Hp} {a : Addr} {kvs : List (Key × V)} {f : Key → Int × Int} (h : DM z m H a kvs f) (l : m ≤ n) : DM z n H a kvs f := ⟨h.1, h.2.1, Nat.le_trans h.2.2.1 l, h.2.2.2⟩
theorem DM.fn {z : Prop} {m : Nat} {H : Hp} {a : Addr} {kvs : List (Key × V)} {f g : Key → Int × Int} (h : DM z m H a kvs f) (e : ∀ k, g k = f k) : DM z m H a kvs g := by
  have : g = f := funext e
  rw [this]
  exact h
theorem DM.copy {z : Prop} {m : Nat} {H : Hp} {a c : Addr} {kvs : List (Key × V)} {f : Key → Int × Int} (h : DM z m H a kvs f) (n : H c = none) : DM z m (upd H c (.dK kvs)) c kvs f := by
  have q := h.same (same_new (o := .dK kvs) n)
  exact ⟨upd_same, q.2⟩
/-- d[k] = v, f changed there -/
theorem DM.put {z : Prop} {m : Nat} {H : Hp} {a r : Addr} {kvs : List (Key × V)} {f : Key → Int × Int} {x : Str} {v : Int × Int} (h : DM z m H a kvs f) (hx : NmOk x) (hr : H r = some (.tup [.int v.1, .int v.2])) (hz : z → v.1 ≠ 0) :
    DM z (m + 1) (upd H a (.dK (putK kvs (.inr x) (.ref r)))) a (putK kvs (.inr x) (.ref r)) (fun k => if k = .inr x then v else f k) := by
  obtain ⟨h1, h2, h3, h4, h5⟩ := h
  have keep : ∀ r' xs, H r' = some (.tup xs) → (upd H a (.dK (putK kvs (.inr x) (.ref r)))) r' = some (.tup xs) := fun r' xs e => by
    rw [upd_ne fun c => ?_]
    · exact e
    · rw [c, h1] at e
      cases e
  have hv := valV_put kvs (.inr x) (y := .ref r)
  refine ⟨upd_same, nd_put _ _ h2, Nat.le_trans (length_putK ..) (Nat.succ_le_succ h3), fun p hp => ?_, fun k e => ?_⟩
  · have e0 : valV (putK kvs (.inr x) (.ref r)) p.1 = some p.2 := val_nodup (nd_put _ _ h2) p hp
    rw [hv] at e0
    by_cases c : p.1 = .inr x
    · rw [if_pos c] at e0
      dsimp only
      rw [if_pos c]
      exact ⟨⟨x, c, hx⟩, ⟨r, (Option.some.inj e0).symm, keep _ _ hr⟩, hz⟩
    · rw [if_neg c] at e0
      dsimp only
      rw [if_neg c]
      obtain ⟨q, hq, e1, e2⟩ := mem_valV e0
      obtain ⟨g1, ⟨r', g2, g3⟩, g4⟩ := h4 q hq
      rw [e1] at g1 g3 g4
      rw [e2] at g2
      exact ⟨g1, ⟨r', g2, keep _ _ g3⟩, g4⟩
  · rw [hv] at e
    by_cases c : k = .inr x
    · rw [if_pos c] at e
      cases e
    · rw [if_neg c] at e
      show (if k = .inr x then v else f k) = (0, 1)
      rw [if_neg c]
      exact h5 k e
/-- d.pop(k) where f is nought there -/
theorem DM.pop {m : Nat} {H : Hp} {a : Addr} {kvs : List (Key × V)} {f : Key → Int × Int} {x : Key} (h : DM False m H a kvs f) (nz : ∀ p ∈ kvs, p.1 ≠ x → (f p.1).1 ≠ 0) (e0 : f x = (0, 1)) :
    DM True m (upd H a (.dK (dropK kvs x))) a (dropK kvs x) f := by
  obtain ⟨h1, h2, h3, h4, h5⟩ := h
  have keep : ∀ r' xs, H r' = some (.tup xs) → (upd H a (.dK (dropK kvs x))) r' = some (.tup xs) := fun r' xs e => by
    rw [upd_ne fun c => ?_]
    · exact e
    · rw [c, h1] at e
      cases e
  have sub : ∀ p ∈ dropK kvs x, p ∈ kvs ∧ p.1 ≠ x := fun p hp => ⟨(List.mem_filter.mp hp).1, of_decide_eq_true (List.mem_filter.mp hp).2⟩
  refine ⟨upd_same, nd_dropK h2, ?_, fun p hp => ?_, fun k e => ?_⟩
  · exact Nat.le_trans (dropK_le ..) h3
  · obtain ⟨q1, q2⟩ := sub p hp
    obtain ⟨g1, ⟨r', g2, g3⟩, g4⟩ := h4 p q1
    exact ⟨g1, ⟨r', g2, keep _ _ g3⟩, fun _ => nz p q1 q2⟩
  · by_cases c : k = x
    · rw [c]
      exact e0
    · refine h5 k ?_
      cases e2 : valV kvs k with
      | none => rfl
      | some v =>
        obtain ⟨p, hp, e3, e4⟩ := mem_valV e2
        have hd : p ∈ dropK kvs x := List.mem_filter.mpr ⟨hp, decide_eq_true (by rw [e3]; exact c)⟩
        exact absurd (List.mem_map.mpr ⟨p, hd, e3⟩) (valV_not e)
theorem deq_of {m n : Nat} {H : Hp} {a b : Addr} {kvs ls : List (Key × V)} {f : Key → Int × Int} (h : DM True m H a kvs f) (h' : DM True n H b ls f) : DEq H (.ref a) (.ref b) := by
  obtain ⟨h1, h2, h3, h4, h5⟩ := h
  obtain ⟨g1, g2, g3, g4, g5⟩ := h'
  have key : ∀ (l1 l2 : List (Key × V)), (∀ p ∈ l1, (f p.1).1 ≠ 0) → (∀ k, valV l2 k = none → f k = (0, 1)) → ∀ x ∈ l1.map (·.1), x ∈ l2.map (·.1) := fun l1 l2 q1 q2 x hx => by
    obtain ⟨p, hp, rfl⟩ := List.mem_map.mp hx
    cases e : valV l2 p.1 with
    | none => exact absurd (by rw [q2 _ e]) (q1 p hp)
    | some v => exact valV_in e
  have m1 := key kvs ls (fun p hp => (h4 p hp).2.2 trivial) g5
  have m2 := key ls kvs (fun p hp => (g4 p hp).2.2 trivial) h5
  have pm : (kvs.map (·.1)).Perm (ls.map (·.1)) := (List.perm_ext_iff_of_nodup h2 g2).mpr fun x => ⟨m1 x, m2 x⟩
  have hl : kvs.length = ls.length := by
    have q := pm.length_eq
    rw [List.length_map, List.length_map] at q
    exact q
  refine ⟨a, b, kvs, ls, rfl, rfl, h1, g1, hl, fun p hp => ?_⟩
  cases e : valV ls p.1 with
  | none => exact absurd (by rw [g5 _ e]) ((h4 p hp).2.2 trivial)
  | some v =>
    obtain ⟨q, hq, e1, e2⟩ := mem_valV e
    obtain ⟨_, ⟨r, e3, e4⟩, _⟩ := g4 q hq
    obtain ⟨_, ⟨r', e5, e6⟩, _⟩ := h4 p hp
    rw [e1] at e4
    refine ⟨v, rfl, r', r, _, _, e5, e2.symm.trans e3, e6, e4⟩
end SS

namespace SS
open PySem PySem.Spec PyProof.Rows L2
theorem op_neDK {X : Cx} {K : PySem.W.Frag} (hK : K = X.K) (hu : X.A.units + 64 < cLine) : OpR X (compareOp .NotEq) (rNeD K) := by
  subst hK
  exact op_neD hu
theorem eqv_nought (n d : Int) : PyData.eqv (.tuple [.int n, .int d]) (.tuple [.int 0, .int 1]) = (n == 0 && d == 1) := by
  simp [PyData.eqv, PyData.eqvAll]
/-- g says of the keys of l what f says, of all others nought -/
def Upto (l : List (Key × V)) (f g : Key → Int × Int) : Prop := ∀ k, (k ∈ l.map (·.1) → g k = f k) ∧ (¬ k ∈ l.map (·.1) → g k = (0, 1))
theorem take_snoc {kvs : List (Key × V)} {i : Nat} {p : Key × V} (h : kvs[i]? = some p) : kvs.take (i + 1) = kvs.take i ++ [p] := by
  rw [List.take_add_one, h]
  rfl
theorem nd_at {kvs : List (Key × V)} {i : Nat} {p : Key × V} (hn : (kvs.map (·.1)).Nodup) (h : kvs[i]? = some p) : ¬ p.1 ∈ (kvs.take i).map (·.1) := fun hm => by
  have e : kvs = kvs.take i ++ p :: kvs.drop (i + 1) := by
    have hi := (List.getElem?_eq_some_iff.mp h)
    obtain ⟨hi, e⟩ := hi
    rw [← e, ← List.drop_eq_getElem_cons hi, List.take_append_drop]
  rw [e, List.map_append, List.map_cons] at hn
  have := List.nodup_append.mp hn
  exact this.2.2 _ hm _ List.mem_cons_self rfl
theorem Upto.snoc {kvs : List (Key × V)} {f g : Key → Int × Int} {i : Nat} {p : Key × V} (u : Upto (kvs.take i) f g) (h : kvs[i]? = some p) : Upto (kvs.take (i + 1)) f (fun k => if k = p.1 then f p.1 else g k) := fun k => by
  rw [take_snoc h, List.map_append, List.mem_append]
  constructor
  · intro hm
    by_cases c : k = p.1
    · show (if k = p.1 then f p.1 else g k) = f k
      rw [if_pos c, c]
    · show (if k = p.1 then f p.1 else g k) = f k
      rw [if_neg c]
      rcases hm with hm | hm
      · exact (u k).1 hm
      · exact absurd (List.mem_singleton.mp hm) c
  · intro hm
    have c : k ≠ p.1 := fun e => hm (.inr (List.mem_singleton.mpr e))
    show (if k = p.1 then f p.1 else g k) = (0, 1)
    rw [if_neg c]
    exact (u k).2 fun z => hm (.inl z)
theorem Upto.snoc0 {kvs : List (Key × V)} {f g : Key → Int × Int} {i : Nat} {p : Key × V} (u : Upto (kvs.take i) f g) (hn : (kvs.map (·.1)).Nodup) (h : kvs[i]? = some p) (z : f p.1 = (0, 1)) : Upto (kvs.take (i + 1)) f g := fun k => by
  rw [take_snoc h, List.map_append, List.mem_append]
  constructor
  · intro hm
    rcases hm with hm | hm
    · exact (u k).1 hm
    · have e := List.mem_singleton.mp hm
      have e' : k = p.1 := e
      rw [e', z]
      exact (u p.1).2 (nd_at hn h)
  · intro hm
    exact (u k).2 fun q => hm (.inl q)
theorem Upto.all {z : Prop} {m : Nat} {H : Hp} {a : Addr} {kvs : List (Key × V)} {f g : Key → Int × Int} (h : DM z m H a kvs f) (u : Upto kvs f g) : ∀ k, f k = g k := fun k => by
  by_cases c : k ∈ kvs.map (·.1)
  · exact ((u k).1 c).symm
  · rw [(u k).2 c]
    cases e : valV kvs k with
    | none => exact h.2.2.2.2 k e
    | some v => exact absurd (valV_in e) c
theorem dm_new {z : Prop} {m : Nat} {H : Hp} {D : Addr} (h : H D = some (.dK [])) : DM z m H D [] (fun _ => (0, 1)) := ⟨h, List.nodup_nil, Nat.zero_le _, fun p hp => absurd hp List.not_mem_nil, fun _ _ => rfl⟩
section
variable {P : Program} {w : World} {K : PySem.W.Frag} {mg : Str → Option Value} {base : Heap}
def spWn : Sp := fun vs H Q _ => ∃ (a : Addr) (kvs : List (Key × V)) (f : Key → Int × Int) (m B : Nat), vs = [.ref a] ∧ DM False m H a kvs f ∧ m ≤ 900 ∧ (∀ k, Okb B (f k)) ∧
  ∀ H' c ks, Same H H' → H c = none → DM True m H' c ks f → Q (.ref c) H'
theorem scWn : FnScope ["numbers", "unknown"] ["numbers"] (defScope sWn) := ⟨rfl, rfl, rfl, by decide +kernel, rfl, by decide +kernel, by decide +kernel⟩
theorem ok_wn {f' aN : Addr} {fd : FuncData} {k : Nat} (F : Fun K "without_noughts" "without_noughts" sWn f' fd) (gN : mg "NOUGHT" = some (.ref aN)) (hN : ∀ H, FrT K H aN 0 1) : FnOk P w K mg base CX0 (k + 1) f' fd ["numbers"] spWn := by
  refine F.ok scWn (fun vs H Q E h => ?_) (fun cdv A outer s H vs Q E hr h => ?_)
  · obtain ⟨_, _, _, _, _, rfl, _⟩ := h
    rfl
  · obtain ⟨a, kvs, f, m, B, rfl, da, hm, ok, q⟩ := h
    have hu := hu_of hr
    refine ⟨_, pss_one (ps_ret (pe_lock (pe_dc (own := [("unknown", 1)]) (g := gName 1) rfl scWn.nd (pi_keys (pv 0)) (blkOk_by (by rfl))
      (fun _ _ _ _ _ => pg_name (i := 1) scWn.nd rfl (Or.inl rfl))
      (fun _ _ _ _ _ => pts_one (pt_cmpR (op_neDK (K := K) rfl hr.units) (pe_dget hu (pv 0) (pv 1) (fun _ _ => rfl)) (pe_glob (v := .ref aN) (by rfl) gN rfl) (nomark _)))
      (fun _ _ _ _ _ => pv 1) (fun _ _ _ _ _ => pe_dget hu (pv 0) (pv 1) (fun _ _ => rfl))))), ?_⟩
    refine ⟨a, .dK kvs, da.1, trivial, fun od => ⟨_, rfl, a, od, rfl, .inl ⟨kvs, upd_same, fun D nD => ?_⟩⟩⟩
    have nDH : H D = none := by
      cases e : H D with
      | none => rfl
      | some o =>
        by_cases c : D = a
        · rw [c, upd_same] at nD
          cases nD
        · rw [upd_ne c, e] at nD
          cases nD
    have aD : a ≠ D := ne_of_none da.1 nDH
    refine ⟨fun i mm H' => ∃ ks g, i + mm = kvs.length ∧ (∀ x o, x ≠ a → x ≠ D → H x = some o → H' x = some o) ∧ H' a = some (.frz od (.dK kvs)) ∧ DM True i H' D ks g ∧ Upto (kvs.take i) f g,
      ⟨kvs.length, [], fun _ => (0, 1), by omega, fun x o n1 n2 e => by rw [upd_ne n2, upd_ne n1]; exact e, by rw [upd_ne aD]; exact upd_same, dm_new upd_same, fun k => ⟨fun z => absurd z List.not_mem_nil, fun _ => rfl⟩⟩, fun i mm H3 hW => ?_⟩
    obtain ⟨ks, g, em, kp, ha3, dm, up⟩ := hW
    have ml : kvs.length ≤ m := da.2.2.1
    by_cases hi : i < kvs.length
    · refine .inr ⟨⟨ha3, hi⟩, fun H' => ∃ ks g, (∀ x o, x ≠ a → x ≠ D → H x = some o → H' x = some o) ∧ H' a = some (.frz od (.dK kvs)) ∧ DM True (i + 1) H' D ks g ∧ Upto (kvs.take (i + 1)) f g, fun H' hN' => ?_, fun x H' hy => ?_⟩
      · obtain ⟨a1, a2, r1, r2, r3, r4⟩ := hN'
        exact ⟨mm - 1, by omega, a1, a2, by omega, r1, r2, r3, r4⟩
      · obtain ⟨rfl, key, v, hkv, rfl⟩ := hy
        obtain ⟨⟨nx, e1, okn⟩, ⟨rv, e2, e3⟩, _⟩ := da.2.2.2.1 (key, v) (List.mem_of_getElem? hkv)
        have e2' : v = .ref rv := e2
        have e1' : key = .inr nx := e1
        subst e2' e1'
        have ev : valV kvs (.inr nx) = some (.ref rv) := val_nodup da.2.1 (.inr nx, .ref rv) (List.mem_of_getElem? hkv)
        have rva : rv ≠ a := fun c => by
          rw [c, da.1] at e3
          cases e3
        have hv3 : H' rv = some (.tup [.int (f (.inr nx)).1, .int (f (.inr nx)).2]) := kp _ _ rva (ne_of_none e3 nDH) e3
        have dg : DGet H' a (kV (.inr nx)) (some (.ref rv)) := .inl ⟨kvs, .inr nx, .inr ⟨od, ha3⟩, rfl, ev.symm⟩
        refine ⟨rfl, _, rfl, _, rfl, a, _, rfl, dg, .tuple [.int (f (.inr nx)).1, .int (f (.inr nx)).2], .tuple [.int 0, .int 1], .tup (SqT.of hv3) (.cons (.int _) (.cons (.int _) .nil)), .tup (hN _).1 (.cons (.int _) (.cons (.int _) .nil)), rfl, rfl, _, rfl, ite2 (fun e => ?_) (fun e => ?_)⟩
        · rw [eqv_nought] at e
          have nz : (f (.inr nx)).1 ≠ 0 := fun z => by
            have zz := okb_top0 (ok _) z
            rw [zz] at e
            exact absurd e (by decide)
          refine ⟨_, rfl, _, rfl, _, rfl, a, _, rfl, dg, ks, .inr nx, rfl, dm.1, small1000 (by have := dm.2.2.1; omega), ?_⟩
          have dp := dm.put (x := nx) (r := rv) (v := f (.inr nx)) okn hv3 (fun _ => nz)
          refine ⟨_, _, ?_, ?_, dp, up.snoc hkv⟩
          · intro x o n1 n2 e
            rw [upd_ne n2]
            exact kp x o n1 n2 e
          · rw [upd_ne aD]
            exact ha3
        · rw [eqv_nought] at e
          have z : f (.inr nx) = (0, 1) := by
            have e' : (f (.inr nx)).1 = 0 := by
              by_cases c : (f (.inr nx)).1 = 0
              · exact c
              · exact absurd (by rw [show ((f (.inr nx)).1 == 0) = false from beq_eq_false_iff_ne.mpr c]; rfl) e
            exact okb_top0 (ok _) e'
          exact ⟨ks, g, kp, ha3, dm.mono (Nat.le_succ _), up.snoc0 da.2.1 hkv z⟩
    · have ei : kvs.take i = kvs := List.take_of_length_le (by omega)
      rw [ei] at up
      have fg := up.all da
      refine .inl ⟨⟨ha3, by omega⟩, ha3, q _ D ks ?_ nDH ?_⟩
      · intro x o e
        by_cases c : x = a
        · subst c
          rw [upd_same, ← da.1]
          exact e
        · rw [upd_ne c]
          exact kp x o c (ne_of_none e nDH) e
      · obtain ⟨d1, d2, d3, d4, d5⟩ := dm.fn (g := f) fg
        refine ⟨by rw [upd_ne aD.symm]; exact d1, d2, by omega, fun p hp => ?_, d5⟩
        obtain ⟨g1, ⟨r', g2, g3⟩, g4⟩ := d4 p hp
        refine ⟨g1, ⟨r', g2, ?_⟩, g4⟩
        rw [upd_ne fun c => ?_]
        · exact g3
        · rw [c, ha3] at g3
          cases g3
end
end SS

namespace SS
open PySem PySem.Spec PyProof.Rows L2
/-! ### pairs added up -/
def tstep (f : Key → Int × Int) (p : Str × (Int × Int)) : Key → Int × Int := fun k => if k = .inr p.1 then fplus (f k) p.2 else f k
def tot (ps : List (Str × (Int × Int))) : Key → Int × Int := ps.foldl tstep fun _ => (0, 1)
theorem tot_snoc (ps : List (Str × (Int × Int))) (p : Str × (Int × Int)) : tot (ps ++ [p]) = tstep (tot ps) p := by
  unfold tot
  rw [List.foldl_append]
  rfl
theorem tot_ok {B : Nat} {ps : List (Str × (Int × Int))} (h : ∀ p ∈ ps, Okb B p.2) : ∀ k, Okb ((B + 1) * ps.length + 1) (tot ps k) := by
  have key : ∀ (n : Nat) (ps : List (Str × (Int × Int))), ps.length = n → (∀ p ∈ ps, Okb B p.2) → ∀ k, Okb ((B + 1) * ps.length + 1) (tot ps k) := fun n => by
    induction n with
    | zero =>
      intro ps e _ k
      rw [List.eq_nil_of_length_eq_zero e]
      exact okb_zero 0
    | succ n ih =>
      intro ps e hp k
      obtain ⟨qs, p, rfl⟩ : ∃ qs p, ps = qs ++ [p] := by
        have ne : ps ≠ [] := fun z => by
          rw [z] at e
          cases e
        exact ⟨ps.dropLast, ps.getLast ne, (List.dropLast_concat_getLast ne).symm⟩
      have lq : qs.length = n := by
        rw [List.length_append] at e
        exact Nat.succ.inj e
      have i1 := ih qs lq (fun p hp' => hp p (List.mem_append.mpr (.inl hp'))) k
      rw [tot_snoc, List.length_append]
      unfold tstep
      split
      · exact (okb_plus i1 (hp p (List.mem_append.mpr (.inr (List.mem_singleton.mpr rfl))))).mono (by show (B + 1) * qs.length + 1 + B + 1 ≤ (B + 1) * (qs.length + 1) + 1; rw [Nat.mul_succ]; omega)
      · exact i1.mono (by show (B + 1) * qs.length + 1 ≤ (B + 1) * (qs.length + 1) + 1; rw [Nat.mul_succ]; omega)
  exact key _ ps rfl h
/-- at the addresses rs stand the pairs ps -/
def PL (K : PySem.W.Frag) (H : Hp) (rs : List Addr) (ps : List (Str × (Int × Int))) : Prop := rs.length = ps.length ∧ ∀ (i : Nat) (r : Addr), rs[i]? = some r → ∃ (x : Str) (q : Addr) (e : Int × Int), ps[i]? = some (x, e) ∧ H r = some (.tup [.str x, .ref q]) ∧ FrT K H q e.1 e.2
theorem PL.same {K : PySem.W.Frag} {H H' : Hp} {rs : List Addr} {ps : List (Str × (Int × Int))} (h : PL K H rs ps) (s : Same H H') : PL K H' rs ps := ⟨h.1, fun i r e => by
  obtain ⟨x, q, v, e1, e2, e3⟩ := h.2 i r e
  exact ⟨x, q, v, e1, s _ _ e2, e3.new s⟩⟩
section
variable {P : Program} {w : World} {K : PySem.W.Frag} {mg : Str → Option Value} {base : Heap}
def spSumOf (K : PySem.W.Frag) : Sp := fun vs H Q _ => ∃ (p : Addr) (rs : List Addr) (ps : List (Str × (Int × Int))) (B : Nat), vs = [.ref p] ∧ (SqL K H p (rs.map V.ref) ∨ SqT K H p (rs.map V.ref)) ∧ PL K H rs ps ∧ ps.length ≤ 400 ∧ (B + 1) * ps.length + 1 ≤ 2900 ∧ B ≤ 2900 ∧ (∀ p ∈ ps, NmOk p.1 ∧ Okb B p.2) ∧
  ∀ H' c ks, Same H H' → H c = none → DM True ps.length H' c ks (tot ps) → Q (.ref c) H'
theorem Same.seqT {H H' : Hp} {a : Addr} {xs : List V} (e : Same H H') (h : SqT K H a xs) : SqT K H' a xs := by
  rcases h with (h | ⟨o, h⟩) | h
  · exact .inl (.inl (e _ _ h))
  · exact .inl (.inr ⟨o, e _ _ h⟩)
  · exact .inr h
theorem scSumOf : FnScope ["pairs", "numbers", "unknown", "number"] ["pairs"] (defScope sSumOf) := ⟨rfl, rfl, rfl, by decide +kernel, rfl, by decide +kernel, by decide +kernel⟩
theorem ok_sumof {f' aN : Addr} {fd : FuncData} (F : Fun K "sum_of" "sum_of" sSumOf f' fd) (gN : mg "NOUGHT" = some (.ref aN)) (hN : ∀ H, FrT K H aN 0 1) (pl : Cl P w K mg base CX0 3 "plus" (spPlus K) []) (wn : Cl P w K mg base CX0 1 "without_noughts" spWn []) : FnOk P w K mg base CX0 4 f' fd ["pairs"] (spSumOf K) := by
  refine F.ok scSumOf (fun vs H Q E h => ?_) (fun cdv A outer s H vs Q E hr h => ?_)
  · obtain ⟨_, _, _, _, rfl, _⟩ := h
    rfl
  · obtain ⟨p, rs, ps, B, rfl, hS, hp, hl, hB, hB2, hx, q⟩ := h
    have hu := hu_of hr
    rcases hS with hS | hS
    · refine ⟨_, pss_cons (ps_set (i := 1) scSumOf.nd rfl (.inl rfl) pe_dnewK)
        (pss_cons (ps_for PassesOwn.never rfl (pi_list (pv 0)) (pg_tup rfl (pgs_cons (pg_name (i := 2) scSumOf.nd rfl (.inl rfl)) (pgs_cons (pg_name (i := 3) scSumOf.nd rfl (.inl rfl)) pgs_nil)))
          (pss_one (ps_dput hu (pv 1) (pv 2) (pc0 pl hr (by decide) (pa_cons (pe_dget2 hu (pv 1) (pv 2) (pe_glob (v := .ref aN) (by rfl) gN rfl) ⟨rfl, rfl, rfl, rfl⟩) (pa_cons (pv 3) pa_nil))) rfl)))
        (pss_one (ps_ret (pc0 wn hr (by decide) (pa_cons (pv 1) pa_nil))))), ?_⟩
      intro D nD
      have s0 := same_new (o := .dK []) nD
      refine ⟨_, rfl, p, rfl, ⟨_, s0.seq hS⟩, for_list (K := K) (a := p) (xs := rs.map V.ref) (fun i σ H' => ∃ (y2 y3 : Option V) (ks : List (Key × V)), σ = [some (.ref p), some (.ref D), y2, y3] ∧ Same H H' ∧ DM False i H' D ks (tot (ps.take i)))
        ⟨none, none, [], rfl, s0, dm_new upd_same⟩ (fun i σ H' _ hW => ?_) ?_ ?_⟩
      · obtain ⟨_, _, _, _, sm, _⟩ := hW
        exact sm.seq hS
      · rintro i y σ H3 hy ⟨y2, y3, ks, rfl, sm, dm⟩
        obtain ⟨r, hri, rfl⟩ : ∃ r, rs[i]? = some r ∧ y = .ref r := by
          rw [List.getElem?_map] at hy
          cases e : rs[i]? with
          | none =>
            rw [e] at hy
            cases hy
          | some r =>
            rw [e] at hy
            exact ⟨r, rfl, (Option.some.inj hy).symm⟩
        obtain ⟨x, qa, e, hpi, hr1, hq1⟩ := hp.2 i r hri
        have il : i < ps.length := (List.getElem?_eq_some_iff.mp hpi).1
        have hxe := hx _ (List.mem_of_getElem? hpi)
        have et : ps.take (i + 1) = ps.take i ++ [(x, e)] := by
          rw [List.take_add_one, hpi]
          rfl
        have okt : ∀ k, Okb 2900 (tot (ps.take i) k) := fun k => (tot_ok (fun p hp' => (hx p (List.mem_of_mem_take hp')).2) k).mono (by
          have : (ps.take i).length ≤ ps.length := by rw [List.length_take]; exact Nat.min_le_right _ _
          have := Nat.mul_le_mul_left (B + 1) this
          omega)
        have hr3 := sm _ _ hr1
        refine ⟨r, _, rfl, SqT.of hr3, rfl, _, _, rfl, _, _, rfl, rfl, ?_⟩
        obtain ⟨rp, ep, fp⟩ : ∃ rp, (valV ks (.inr x)).getD (.ref aN) = .ref rp ∧ FrT K H3 rp (tot (ps.take i) (.inr x)).1 (tot (ps.take i) (.inr x)).2 := by
          cases ev : valV ks (.inr x) with
          | none =>
            rw [dm.2.2.2.2 _ ev]
            exact ⟨aN, rfl, hN _⟩
          | some v =>
            obtain ⟨r', rfl, f'⟩ := dm.get ev
            exact ⟨r', rfl, FrT.of f'⟩
        have o1 := okt (.inr x)
        have o2 := hxe.2.mono hB2
        refine ⟨_, rfl, D, rfl, .inl ⟨ks, .inl dm.1⟩, _, rfl, valV ks (.inr x), DGet.k (k := .inr x) dm.1, _, rfl, _, _, e.1, e.2, ⟨rp, qa, by rw [ep]; rfl, fp, (hq1.new sm), o1.1, o2.1, sm_mono o1.2.1 (by decide), sm_mono o1.2.2.1 (by decide), sm_mono o2.2.1 (by decide), sm_mono o2.2.2.1 (by decide), o1.2.2.2, o2.2.2.2⟩, fun r2 nr2 => ?_⟩
        have s4 := same_new (o := .tup [.int (fplus (tot (ps.take i) (.inr x)) e).1, .int (fplus (tot (ps.take i) (.inr x)) e).2]) nr2
        have dm4 := dm.same s4
        refine ⟨_, rfl, _, rfl, D, _, rfl, DPut.k (k := .inr x) dm4.1 (small1000 (by have := dm.2.2.1; omega)), ?_⟩
        refine ⟨_, _, _, rfl, ?_, (dm4.put (x := x) (r := r2) (v := fplus (tot (ps.take i) (.inr x)) e) hxe.1 upd_same (fun z => z.elim)).fn fun k => ?_⟩
        · intro b o eb
          rw [upd_ne (ne_of_none eb nD)]
          exact s4 _ _ (sm _ _ eb)
        · rw [et, tot_snoc]
          show (if k = .inr x then fplus (tot (ps.take i) k) e else tot (ps.take i) k) = if k = .inr x then fplus (tot (ps.take i) (.inr x)) e else tot (ps.take i) k
          by_cases c : k = .inr x
          · rw [if_pos c, if_pos c, c]
          · rw [if_neg c, if_neg c]
      · rintro σ H3 ⟨y2, y3, ks, rfl, sm, dm⟩
        rw [List.length_map, hp.1, List.take_length] at dm
        refine ⟨_, rfl, D, ks, tot ps, ps.length, 2900, rfl, dm, (by omega), fun k => (tot_ok (fun p hp' => (hx p hp').2) k).mono hB, fun H4 c ks' s4 nc d4 => ?_⟩
        exact q _ c ks' (sm.trans s4) (sm.free nc) d4
    · refine ⟨_, pss_cons (ps_set (i := 1) scSumOf.nd rfl (.inl rfl) pe_dnewK)
        (pss_cons (ps_for PassesOwn.never rfl (pi_tup (pv 0)) (pg_tup rfl (pgs_cons (pg_name (i := 2) scSumOf.nd rfl (.inl rfl)) (pgs_cons (pg_name (i := 3) scSumOf.nd rfl (.inl rfl)) pgs_nil)))
          (pss_one (ps_dput hu (pv 1) (pv 2) (pc0 pl hr (by decide) (pa_cons (pe_dget2 hu (pv 1) (pv 2) (pe_glob (v := .ref aN) (by rfl) gN rfl) ⟨rfl, rfl, rfl, rfl⟩) (pa_cons (pv 3) pa_nil))) rfl)))
        (pss_one (ps_ret (pc0 wn hr (by decide) (pa_cons (pv 1) pa_nil))))), ?_⟩
      intro D nD
      have s0 := same_new (o := .dK []) nD
      refine ⟨_, rfl, p, rfl, ⟨_, Same.seqT s0 hS⟩, for_tup (K := K) (a := p) (xs := rs.map V.ref) (fun i σ H' => ∃ (y2 y3 : Option V) (ks : List (Key × V)), σ = [some (.ref p), some (.ref D), y2, y3] ∧ Same H H' ∧ DM False i H' D ks (tot (ps.take i)))
        ⟨none, none, [], rfl, s0, dm_new upd_same⟩ (fun i σ H' _ hW => ?_) ?_ ?_⟩
      · obtain ⟨_, _, _, _, sm, _⟩ := hW
        exact Same.seqT sm hS
      · rintro i y σ H3 hy ⟨y2, y3, ks, rfl, sm, dm⟩
        obtain ⟨r, hri, rfl⟩ : ∃ r, rs[i]? = some r ∧ y = .ref r := by
          rw [List.getElem?_map] at hy
          cases e : rs[i]? with
          | none =>
            rw [e] at hy
            cases hy
          | some r =>
            rw [e] at hy
            exact ⟨r, rfl, (Option.some.inj hy).symm⟩
        obtain ⟨x, qa, e, hpi, hr1, hq1⟩ := hp.2 i r hri
        have il : i < ps.length := (List.getElem?_eq_some_iff.mp hpi).1
        have hxe := hx _ (List.mem_of_getElem? hpi)
        have et : ps.take (i + 1) = ps.take i ++ [(x, e)] := by
          rw [List.take_add_one, hpi]
          rfl
        have okt : ∀ k, Okb 2900 (tot (ps.take i) k) := fun k => (tot_ok (fun p hp' => (hx p (List.mem_of_mem_take hp')).2) k).mono (by
          have : (ps.take i).length ≤ ps.length := by rw [List.length_take]; exact Nat.min_le_right _ _
          have := Nat.mul_le_mul_left (B + 1) this
          omega)
        have hr3 := sm _ _ hr1
        refine ⟨r, _, rfl, SqT.of hr3, rfl, _, _, rfl, _, _, rfl, rfl, ?_⟩
        obtain ⟨rp, ep, fp⟩ : ∃ rp, (valV ks (.inr x)).getD (.ref aN) = .ref rp ∧ FrT K H3 rp (tot (ps.take i) (.inr x)).1 (tot (ps.take i) (.inr x)).2 := by
          cases ev : valV ks (.inr x) with
          | none =>
            rw [dm.2.2.2.2 _ ev]
            exact ⟨aN, rfl, hN _⟩
          | some v =>
            obtain ⟨r', rfl, f'⟩ := dm.get ev
            exact ⟨r', rfl, FrT.of f'⟩
        have o1 := okt (.inr x)
        have o2 := hxe.2.mono hB2
        refine ⟨_, rfl, D, rfl, .inl ⟨ks, .inl dm.1⟩, _, rfl, valV ks (.inr x), DGet.k (k := .inr x) dm.1, _, rfl, _, _, e.1, e.2, ⟨rp, qa, by rw [ep]; rfl, fp, (hq1.new sm), o1.1, o2.1, sm_mono o1.2.1 (by decide), sm_mono o1.2.2.1 (by decide), sm_mono o2.2.1 (by decide), sm_mono o2.2.2.1 (by decide), o1.2.2.2, o2.2.2.2⟩, fun r2 nr2 => ?_⟩
        have s4 := same_new (o := .tup [.int (fplus (tot (ps.take i) (.inr x)) e).1, .int (fplus (tot (ps.take i) (.inr x)) e).2]) nr2
        have dm4 := dm.same s4
        refine ⟨_, rfl, _, rfl, D, _, rfl, DPut.k (k := .inr x) dm4.1 (small1000 (by have := dm.2.2.1; omega)), ?_⟩
        refine ⟨_, _, _, rfl, ?_, (dm4.put (x := x) (r := r2) (v := fplus (tot (ps.take i) (.inr x)) e) hxe.1 upd_same (fun z => z.elim)).fn fun k => ?_⟩
        · intro b o eb
          rw [upd_ne (ne_of_none eb nD)]
          exact s4 _ _ (sm _ _ eb)
        · rw [et, tot_snoc]
          show (if k = .inr x then fplus (tot (ps.take i) k) e else tot (ps.take i) k) = if k = .inr x then fplus (tot (ps.take i) (.inr x)) e else tot (ps.take i) k
          by_cases c : k = .inr x
          · rw [if_pos c, if_pos c, c]
          · rw [if_neg c, if_neg c]
      · rintro σ H3 ⟨y2, y3, ks, rfl, sm, dm⟩
        rw [List.length_map, hp.1, List.take_length] at dm
        refine ⟨_, rfl, D, ks, tot ps, ps.length, 2900, rfl, dm, (by omega), fun k => (tot_ok (fun p hp' => (hx p hp').2) k).mono hB, fun H4 c ks' s4 nc d4 => ?_⟩
        exact q _ c ks' (sm.trans s4) (sm.free nc) d4
end
end SS

namespace SS
open PySem PySem.Spec PyProof.Rows L2
theorem DM.weak {z : Prop} {m : Nat} {H : Hp} {a : Addr} {kvs : List (Key × V)} {f : Key → Int × Int} (h : DM z m H a kvs f) : DM False m H a kvs f := ⟨h.1, h.2.1, h.2.2.1, fun p hp => ⟨(h.2.2.2.1 p hp).1, (h.2.2.2.1 p hp).2.1, fun c => c.elim⟩, h.2.2.2.2⟩
/-- the dict at b is given back -/
theorem DM.unlock {z : Prop} {m : Nat} {H : Hp} {a b : Addr} {kvs ls : List (Key × V)} {f : Key → Int × Int} {od : Obj} {o : HO} (h : DM z m H a kvs f) (hb : H b = some (.frz od (.dK ls))) (n : a ≠ b) : DM z m (upd H b o) a kvs f := by
  obtain ⟨h1, h2, h3, h4, h5⟩ := h
  refine ⟨by rw [upd_ne n]; exact h1, h2, h3, fun p hp => ?_, h5⟩
  obtain ⟨e1, ⟨r, e2, e3⟩, e4⟩ := h4 p hp
  refine ⟨e1, ⟨r, e2, ?_⟩, e4⟩
  rw [upd_ne fun c => ?_]
  · exact e3
  · rw [c, hb] at e3
    cases e3
section
variable {P : Program} {w : World} {K : PySem.W.Frag} {mg : Str → Option Value} {base : Heap}
def spAdd (K : PySem.W.Frag) : Sp := fun vs H Q _ => ∃ (a b n : Addr) (kvs ls : List (Key × V)) (f g : Key → Int × Int) (num : Int × Int) (m l : Nat), vs = [.ref a, .ref b, .ref n] ∧ DM True m H a kvs f ∧ DM False l H b ls g ∧ FrT K H n num.1 num.2 ∧
  (∀ k, Okb 1000 (f k)) ∧ (∀ k, Okb 100 (g k)) ∧ Okb 100 num ∧ m ≤ 100 ∧ l ≤ 100 ∧ ∀ H' c ks, Same H H' → H c = none → DM True (m + l) H' c ks (fun k => fplus (f k) (ftimes (g k) num)) → Q (.ref c) H'
end
end SS

namespace SS
open PySem PySem.Spec PyProof.Rows L2
theorem abc_mem : ∀ i : Nat, i < 26 → 97 + i ∈ abc.cps.toList := by decide +kernel
theorem ix_tupK {X : Cx} {K : PySem.W.Frag} (hK : K = X.K) : IxR X (rIxT K) := by
  subst hK
  exact ix_tup
theorem alls (n : Nat) : (List.replicate n true).all id = true := List.all_eq_true.mpr fun x hx => by
  rw [(List.mem_replicate.mp hx).2]
  rfl
section
variable {P : Program} {w : World} {K : PySem.W.Frag} {mg : Str → Option Value} {base : Heap}
def spIsName : Sp := fun vs H Q _ => ∃ x : Str, vs = [.str x] ∧ NmOk x ∧ ∀ H', Same H H' → Q (.bl true) H'
theorem scIsName : FnScope ["_law_thing", "_law_sign_here"] ["_law_thing"] (defScope sIsName) := ⟨rfl, rfl, rfl, by decide +kernel, rfl, by decide +kernel, by decide +kernel⟩
theorem ok_isname {f : Addr} {fd : FuncData} {k : Nat} (F : Fun K "_law_is_name" "_law_is_name" sIsName f fd) (mi : mg "isinstance" = none) (ms : mg "str" = none) (ml : mg "len" = none) (ma : mg "all" = none) : FnOk P w K mg base CX0 (k + 1) f fd ["_law_thing"] spIsName := by
  refine F.ok scIsName (fun vs H Q E h => ?_) (fun cdv A outer s H vs Q E hr h => ?_)
  · obtain ⟨_, rfl, _⟩ := h
    rfl
  · obtain ⟨x, rfl, ok, q⟩ := h
    refine ⟨_, pss_cons (ps_if (PW.pt (pw_or (pt_not (pt_val (pe_callB call_isi (by rfl) mi boot_isinstance (pa_cons (pv 0) (pa_cons (pe_bltn (v := .ty "str") (u := .type "str") (by rfl) ms (by decide +kernel) rfl) pa_nil)))))
        (pw_or1 (pt_not (pt_chain op_lt op_lt pe_int (pe_callB call_len (by rfl) ml PySem.boot_len (pa_cons (pv 0) pa_nil)) pe_int))))) (pss_one (ps_ret pe_bl)) pss_nil)
      (pss_one (ps_ret (pe_callB (cr_all rfl) (by rfl) ma boot_all (pa_cons
        (pe_lc (own := [("_law_sign_here", 1)]) (g := gName 1) (tt := tYes) rfl scIsName.nd (pi_str (pv 0)) (blkOk_by (by rfl)) (fun _ _ _ _ _ => pg_name (i := 1) scIsName.nd rfl (Or.inl rfl)) (fun _ _ _ _ _ => pts_nil)
          (fun _ _ _ _ _ => pe_cmpR op_in_sign (pv 1) pe_str rfl)) pa_nil)))), ?_⟩
    have el : x.length = x.cps.toList.length := by
      rw [Array.length_toList]
      rfl
    refine ⟨_, rfl, .str x, .ty "str", .type "str", .type "str", true, rfl, .ty _, .base (.str x), kit_ty (by decide +kernel), _, rfl, iteF ?_⟩
    have h0 : (0 : Int) < (x.length : Int) := by
      have := ok.1
      omega
    have h7 : (x.length : Int) < 7 := by
      have := ok.2.1
      omega
    refine ⟨_, rfl, _, x.length, rfl, ⟨ok.len, rfl⟩, 0, (x.length : Int), rfl, rfl, _, rfl, ite2 (fun _ => ?_) (fun e => absurd (decide_eq_true h0) e)⟩
    refine ⟨(x.length : Int), 7, rfl, rfl, true, congrArg V.bl (decide_eq_true h7), iteF ?_⟩
    refine ⟨_, rfl, x, rfl, fun D nD => lc_it walk_str (fun i H' => H' D = some (.lst ((List.replicate i true).map V.bl)) ∧ ∀ b o, b ≠ D → H b = some o → H' b = some o)
      ⟨upd_same, fun b o nb e => by rw [upd_ne nb]; exact e⟩ (fun _ _ _ _ => trivial) ?_ ?_⟩
    · rintro i y H2 H' hi ⟨w1, w2⟩ ⟨rfl, ch, hc, rfl⟩
      have hm : ch ∈ x.cps.toList := by
        rw [← Array.getElem?_toList] at hc
        exact List.mem_of_getElem? hc
      have hr' := ok.2.2 ch hm
      have hin : decide (ch ∈ abc.cps.toList) = true := decide_eq_true (by
        have z := abc_mem (ch - 97) (by omega)
        rw [show 97 + (ch - 97) = ch by omega] at z
        exact z)
      refine ⟨rfl, _, rfl, ch, abc, rfl, rfl, _, w1, ?_, ?_, ?_⟩
      · rw [List.length_map, List.length_replicate]
        have hi' : i < x.cps.toList.length := by
          rw [Array.length_toList]
          exact hi
        exact small1000 (by have := ok.2.1; omega)
      · rw [upd_same, hin, List.replicate_succ', List.map_append]
        rfl
      · intro b o nb e
        rw [upd_ne nb]
        exact w2 b o nb e
    · rintro H' ⟨w1, w2⟩
      refine ⟨D, _, rfl, SqL.of w1, ?_⟩
      rw [alls]
      exact q _ fun b o e => w2 b o (ne_of_none e nD) e
def spIsPoint : Sp := fun vs H Q _ => ∃ (a : Addr) (kvs : List (Key × V)) (f : Key → Int × Int) (z : Prop) (m B : Nat), vs = [.ref a] ∧ DM z m H a kvs f ∧ m ≤ 900 ∧ (∀ k, Okb B (f k)) ∧ ∀ H', Same H H' → Q (.bl true) H'
def spIsSum : Sp := fun vs H Q _ => ∃ (a : Addr) (kvs : List (Key × V)) (f : Key → Int × Int) (m B : Nat), vs = [.ref a] ∧ DM True m H a kvs f ∧ m ≤ 900 ∧ (∀ k, Okb B (f k)) ∧ ∀ H', Same H H' → Q (.bl true) H'
end
end SS

namespace SS
open PySem PySem.Spec PyProof.Rows L2
theorem vals_refs : ∀ {rs : List Addr} {us : List Value}, Vals (rs.map V.ref) us → us = rs.map Value.ref
  | [], _, .nil => rfl
  | r :: rs, _, .cons h t => by
    have e : _ = Value.ref r := h
    rw [e, vals_refs t]
    rfl
/-- l != m, lists of the very same objects -/
def rNeS (K : PySem.W.Frag) : R2 := fun x y H Q => ∃ (p q : Addr) (rs : List Addr), x = .ref p ∧ y = .ref q ∧ SqL K H p (rs.map V.ref) ∧ SqL K H q (rs.map V.ref) ∧ Q (.bl false) H
theorem op_neS {X : Cx} (hu : X.A.units + 64 < cLine) : OpR X (compareOp .NotEq) (rNeS X.K) := by
  intro pins s σ H x y v u Q I rx ry h
  obtain ⟨p, r, rs, rfl, rfl, h1, h2, q⟩ := h
  obtain rfl : v = Value.ref p := rx
  obtain rfl : u = Value.ref r := ry
  obtain ⟨us, r1, p1, _⟩ := I.list h1
  obtain ⟨ws, r2, p2, _⟩ := I.list h2
  have e1 := vals_refs r1
  have e2 := vals_refs r2
  subst e1 e2
  refine SeqAt.RcNeAt.lists (e := fun _ => true) p1.isList p2.isList rfl (by omega) (fun j j1 j2 => SeqAt.EqAt.same _) X.prog X.w _ _ ?_
  refine ⟨.bl false, H, I, ?_, q⟩
  rw [show ((List.range (rs.map Value.ref).toArray.size).all fun _ => true) = true from List.all_eq_true.mpr fun _ _ => rfl]
  rfl
theorem keep_l {H : Hp} {l : Addr} {xs : List V} {o : HO} (hl : H l = some (.lst xs)) : ∀ r ys, H r = some (.tup ys) → (upd H l o) r = some (.tup ys) := fun r ys e => by
  rw [upd_ne fun c => ?_]
  · exact e
  · rw [c, hl] at e
    cases e
theorem keep_d {H : Hp} {l : Addr} {ks : List (Key × V)} {o : HO} (hl : H l = some (.dK ks)) : ∀ r ys, H r = some (.tup ys) → (upd H l o) r = some (.tup ys) := fun r ys e => by
  rw [upd_ne fun c => ?_]
  · exact e
  · rw [c, hl] at e
    cases e
theorem okb_turned {B : Nat} {e : Int × Int} (h : Okb B e) : Okb B (0 - e.1, e.2) := by
  obtain ⟨h1, h2, h3, h4⟩ := h
  have en : (0 - e.1).natAbs = e.1.natAbs := by omega
  refine ⟨h1, by rw [en]; exact h2, h3, ?_⟩
  show Nat.gcd (0 - e.1).natAbs e.2.natAbs = 1
  rw [en]
  exact h4
theorem tot_add {f : Key → Int × Int} {x : Str} {e : Int × Int} {B C : Nat} (hf : ∀ k, Okb B (f k)) (he : Okb C e) : ∀ k, tstep f (x, e) k = fplus (f k) (ftimes (if k = .inr x then e else (0, 1)) (1, 1)) := fun k => by
  show (if k = .inr x then fplus (f k) e else f k) = _
  by_cases c : k = .inr x
  · rw [if_pos c, if_pos c, ftimes_one he]
  · rw [if_neg c, if_neg c, zero_ftimes (B := 1) ⟨by decide, by decide, by decide, by decide⟩, fplus_zero (hf k)]
end SS

namespace SS
open PySem PySem.Spec PyProof.Rows L2
def nmOf : Key → Str
  | .inr x => x
  | .inl _ => ""
open Classical in
theorem fold_keys {f : Key → Int × Int} : ∀ {kvs : List (Key × V)}, (kvs.map (fun x : Key × V => x.1)).Nodup → (∀ p ∈ kvs, ∃ x, p.1 = .inr x) → ∀ (b : Key → Int × Int) (k : Key), ((kvs.map fun q => (nmOf q.1, f q.1)).foldl tstep b) k = if k ∈ kvs.map (fun x : Key × V => x.1) then fplus (b k) (f k) else b k
  | [], _, _, b, k => by
    rw [if_neg (by rw [List.map_nil]; exact List.not_mem_nil)]
    rfl
  | p :: r, hn, hx, b, k => by
    obtain ⟨n1, n2⟩ := List.nodup_cons.mp hn
    obtain ⟨x, ex⟩ := hx p List.mem_cons_self
    rw [List.map_cons, List.foldl_cons, fold_keys n2 (fun q hq => hx q (List.mem_cons_of_mem _ hq)), List.map_cons]
    have e1 : nmOf p.1 = x := by rw [ex]; rfl
    have et : ∀ k', tstep b (nmOf p.1, f p.1) k' = if k' = p.1 then fplus (b k') (f p.1) else b k' := fun k' => by
      rw [e1]
      show (if k' = .inr x then fplus (b k') (f p.1) else b k') = _
      rw [ex]
    rw [et k]
    by_cases c : k = p.1
    · subst c
      rw [if_neg n1, if_pos rfl, if_pos List.mem_cons_self]
    · rw [if_neg c]
      by_cases d : k ∈ r.map (fun x : Key × V => x.1)
      · rw [if_pos d, if_pos (List.mem_cons_of_mem _ d)]
      · rw [if_neg d, if_neg fun z => by
          rcases List.mem_cons.mp z with z | z
          · exact c z
          · exact d z]
theorem DM.out {z : Prop} {m : Nat} {H : Hp} {a : Addr} {kvs : List (Key × V)} {f : Key → Int × Int} (h : DM z m H a kvs f) {k : Key} (c : ¬ k ∈ kvs.map (·.1)) : f k = (0, 1) := by
  cases e : valV kvs k with
  | none => exact h.2.2.2.2 k e
  | some v => exact absurd (valV_in e) c
open Classical in
theorem tot_two {z z' : Prop} {m m' : Nat} {H H' : Hp} {a b : Addr} {kvs ls : List (Key × V)} {f g : Key → Int × Int} {B : Nat} (h : DM z m H a kvs f) (h' : DM z' m' H' b ls g) (hf : ∀ k, Okb B (f k)) (k : Key) :
    tot ((kvs.map fun q => (nmOf q.1, f q.1)) ++ (ls.map fun q => (nmOf q.1, g q.1))) k = fplus (f k) (g k) := by
  unfold tot
  rw [List.foldl_append, fold_keys h'.2.1 (fun p hp => let ⟨x, e, _⟩ := (h'.2.2.2.1 p hp).1; ⟨x, e⟩), fold_keys h.2.1 (fun p hp => let ⟨x, e, _⟩ := (h.2.2.2.1 p hp).1; ⟨x, e⟩)]
  have e1 : (if k ∈ kvs.map (·.1) then fplus (0, 1) (f k) else (0, 1)) = f k := by
    by_cases c : k ∈ kvs.map (·.1)
    · rw [if_pos c, zero_fplus (hf k)]
    · rw [if_neg c, h.out c]
  rw [e1]
  by_cases c : k ∈ ls.map (·.1)
  · rw [if_pos c]
  · rw [if_neg c, h'.out c, fplus_zero (hf k)]
theorem paired_at {F : Addr → Key × V → Prop} {ts : List Addr} {kvs : List (Key × V)} (h : Paired F ts kvs) : ts.length = kvs.length ∧ ∀ (i : Nat) (t : Addr), ts[i]? = some t → ∃ q, kvs[i]? = some q ∧ F t q := by
  induction h with
  | nil => exact ⟨rfl, fun i t e => by simp at e⟩
  | cons hd tl ih =>
    refine ⟨by rw [List.length_cons, List.length_cons, ih.1], fun i t e => ?_⟩
    match i, e with
    | 0, e =>
      have z := Option.some.inj e
      subst z
      exact ⟨_, rfl, hd⟩
    | i + 1, e => exact ih.2 i t e
theorem merge_nd : ∀ (more acc : List (Key × V)), ((acc ++ more).map (·.1)).Nodup → mergeK acc more = acc ++ more
  | [], acc, _ => by rw [List.append_nil]; rfl
  | p :: r, acc, h => by
    show mergeK (putK acc p.1 p.2) r = acc ++ p :: r
    have hn : valV acc p.1 = none := by
      cases e : valV acc p.1 with
      | none => rfl
      | some v =>
        rw [List.map_append] at h
        exact absurd rfl ((List.nodup_append.mp h).2.2 _ (valV_in e) _ List.mem_cons_self)
    rw [putK_new _ hn, merge_nd r (acc ++ [(p.1, p.2)]) (by rw [List.append_assoc]; exact h), List.append_assoc]
    rfl
theorem FrT.kept {K : PySem.W.Frag} {H H' : Hp} {a D p : Addr} {n d : Int} {kvs : List (Key × V)} (h : FrT K H p n d) (ha : H a = some (.dK kvs)) (nD : H D = none) (kp : ∀ x o, x ≠ a → x ≠ D → H x = some o → H' x = some o) : FrT K H' p n d := by
  obtain ⟨h1, h2⟩ := h
  rcases h1 with (h1 | ⟨o1, h1⟩) | ⟨o1, its, m, k1, k2, k3⟩
  · exact FrT.of (kp _ _ (fun z => by rw [z, ha] at h1; cases h1) (ne_of_none h1 nD) h1)
  · have e := kp _ _ (fun z => by rw [z, ha] at h1; cases h1) (ne_of_none h1 nD) h1
    exact ⟨.inl (.inr ⟨o1, e⟩), .fTuple e⟩
  · exact ⟨.inr ⟨o1, its, m, k1, k2, k3⟩, .kTuple k1 k2⟩
section
variable {P : Program} {w : World} {K : PySem.W.Frag} {mg : Str → Option Value} {base : Heap}
def spSumPlus : Sp := fun vs H Q _ => ∃ (a b : Addr) (kvs ls : List (Key × V)) (f g : Key → Int × Int) (m l B : Nat), vs = [.ref a, .ref b] ∧ DM True m H a kvs f ∧ DM True l H b ls g ∧ (∀ k, Okb B (f k)) ∧ (∀ k, Okb B (g k)) ∧ m + l ≤ 400 ∧ (B + 1) * (m + l) + 1 ≤ 2900 ∧ B ≤ 2900 ∧
  ∀ H' c ks, Same H H' → H c = none → DM True (m + l) H' c ks (fun k => fplus (f k) (g k)) → Q (.ref c) H'
def spSumTimes (K : PySem.W.Frag) : Sp := fun vs H Q _ => ∃ (a n : Addr) (kvs : List (Key × V)) (f : Key → Int × Int) (num : Int × Int) (m A B : Nat), vs = [.ref a, .ref n] ∧ DM True m H a kvs f ∧ FrT K H n num.1 num.2 ∧ (∀ k, Okb A (f k)) ∧ Okb B num ∧ m ≤ 400 ∧ A ≤ 2900 ∧ B ≤ 2900 ∧
  ∀ H' c ks, Same H H' → H c = none → DM True m H' c ks (fun k => ftimes (f k) num) → Q (.ref c) H'
def spWith : Sp := fun vs H Q _ => ∃ (a n : Addr) (x : Str) (kvs : List (Key × V)) (f : Key → Int × Int) (num : Int × Int), vs = [.ref a, .str x, .ref n] ∧ DM True 10 H a kvs f ∧ NmOk x ∧ H n = some (.tup [.int num.1, .int num.2]) ∧ num.1 ≠ 0 ∧
  ∀ H' c ks, Same H H' → H c = none → DM True 11 H' c ks (fun k => if k = .inr x then num else f k) → Q (.ref c) H'
def spOpp : Sp := fun vs H Q _ => ∃ (a : Addr) (kvs : List (Key × V)) (f : Key → Int × Int), vs = [.ref a] ∧ DM True 10 H a kvs f ∧
  ∀ H' c ks, Same H H' → H c = none → DM True 10 H' c ks (fun k => (0 - (f k).1, (f k).2)) → Q (.ref c) H'
theorem Paired.snocX {F : Addr → Key × V → Prop} {ts : List Addr} {ks : List (Key × V)} {t : Addr} {q : Key × V} (h : Paired F ts ks) (e : F t q) : Paired F (ts ++ [t]) (ks ++ [q]) := by
  induction h with
  | nil => exact .cons e .nil
  | cons hd tl ih => exact .cons hd ih
theorem Paired.impX {F G : Addr → Key × V → Prop} {ts : List Addr} {ks : List (Key × V)} (h : Paired F ts ks) (i : ∀ t q, F t q → G t q) : Paired G ts ks := by
  induction h with
  | nil => exact .nil
  | cons hd tl ih => exact .cons (i _ _ hd) ih
end
end SS

namespace SS
open PySem PySem.Spec PyProof.Rows L2
/-- what a drawn sum says -/
def pval (H : Hp) (ls : List (Key × V)) (k : Key) : Int × Int := match valV ls k with
  | some v => fval H v
  | none => (0, 1)
theorem DF.dm {k m : Nat} {H : Hp} {a : Addr} {kvs : List (Key × V)} (h : DF k m H a kvs) (z : NZ H kvs) : DM True m H a kvs (pval H kvs) := by
  refine ⟨h.1, h.2.1, h.2.2.1, fun p hp => ?_, fun y e => ?_⟩
  · obtain ⟨x, r, e1, e2, e3, e4⟩ := h.2.2.2 p hp
    have ev : pval H kvs p.1 = fval H p.2 := by
      unfold pval
      rw [val_nodup h.2.1 p hp]
    refine ⟨⟨x, e1, e2⟩, ⟨r, e3, ?_⟩, fun _ => ?_⟩
    · rw [ev, e3]
      exact e4.val.1
    · rw [ev]
      exact z p hp
  · unfold pval
    rw [e]
theorem DF.okp {k m : Nat} {H : Hp} {a : Addr} {kvs : List (Key × V)} (h : DF (k + 1) m H a kvs) (y : Key) : Okb (k + 1) (pval H kvs y) := by
  unfold pval
  cases e : valV kvs y with
  | none => exact okb_zero k
  | some v =>
    obtain ⟨p, hp, _, e2⟩ := mem_valV e
    obtain ⟨x, r, _, _, e3, e4⟩ := h.2.2.2 p hp
    rw [← e2, e3]
    exact e4.okb
theorem DM.but {z : Prop} {m : Nat} {H H' : Hp} {st c a : Addr} {kvs : List (Key × V)} {f : Key → Int × Int} (h : DM z m H a kvs f) (s : But st H H') (y : StA st c H) : DM z m H' a kvs f := by
  obtain ⟨h1, h2, h3, h4, h5⟩ := h
  refine ⟨s _ _ (fun e => ?_) h1, h2, h3, fun p hp => ?_, h5⟩
  · obtain ⟨i, n, ff, xs, g1, _⟩ := y
    rw [e, g1] at h1
    cases h1
  · obtain ⟨e1, ⟨r, e2, e3⟩, e4⟩ := h4 p hp
    exact ⟨e1, ⟨r, e2, s.tup y e3⟩, e4⟩
/-- another dict changes -/
theorem DM.upd {z : Prop} {m : Nat} {H : Hp} {a b : Addr} {kvs ks : List (Key × V)} {f : Key → Int × Int} {o : HO} (h : DM z m H a kvs f) (hb : H b = some (.dK ks)) (n : a ≠ b) : DM z m (upd H b o) a kvs f :=
  h.lk hb n fun x o nx e => by rw [upd_ne nx]; exact e
theorem cutTake4 {xs : List V} {d : Int} (h : 0 ≤ d) : cutV xs none (some d) = xs.take d.toNat := by
  obtain ⟨n, rfl⟩ := Int.eq_ofNat_of_zero_le h
  unfold cutV
  rw [HT.sIx_none, show HT.sIx xs.length xs.length (some (n : Int)) = min n xs.length from HT.sIx_nat xs.length xs.length n]
  show List.take (min n xs.length - 0) (xs.drop 0) = xs.take (n : Int).toNat
  rw [List.drop_zero, Nat.sub_zero, Int.toNat_natCast]
  by_cases c : n ≤ xs.length
  · rw [Nat.min_eq_left c]
  · rw [Nat.min_eq_right (by omega), List.take_length, List.take_of_length_le (by omega)]
theorem zz_ok : NmOk "zz" := by decide +kernel
theorem same_growX {H H1 : Hp} {p : Addr} {o : HO} (s : Same H H1) (n : H p = none) : Same H (upd H1 p o) := fun b x e => by
  rw [upd_ne (ne_of_none e n)]
  exact s b x e
end SS

namespace SS
/-! ### fractions as Lean's own rational numbers -/
def Lo (a : Int × Int) : Prop := 0 < a.2 ∧ Int.gcd a.1 a.2 = 1
def toQ (a : Int × Int) : Rat := Rat.divInt a.1 a.2
theorem toQ_fr {t b : Int} (h : b ≠ 0) : toQ (fr1 t b, fr2 t b) = Rat.divInt t b :=
  (Rat.divInt_eq_divInt_iff (Int.ne_of_gt (fr2_pos h)) h).mpr (fr_cross h)
theorem lo_fr {t b : Int} (h : b ≠ 0) : Lo (fr1 t b, fr2 t b) := ⟨fr2_pos h, fr_gcd h⟩
theorem Lo.nz {a b : Int × Int} (ha : 0 < a.2) (hb : 0 < b.2) : a.2 * b.2 ≠ 0 := Int.ne_of_gt (Int.mul_pos ha hb)
theorem toQ_plus {a b : Int × Int} (ha : 0 < a.2) (hb : 0 < b.2) : toQ (fplus a b) = toQ a + toQ b := by
  show toQ (fr1 _ _, fr2 _ _) = Rat.divInt a.1 a.2 + Rat.divInt b.1 b.2
  rw [toQ_fr (Lo.nz ha hb), Rat.divInt_add_divInt _ _ (Int.ne_of_gt ha) (Int.ne_of_gt hb)]
theorem toQ_times {a b : Int × Int} (ha : 0 < a.2) (hb : 0 < b.2) : toQ (ftimes a b) = toQ a * toQ b := by
  show toQ (fr1 _ _, fr2 _ _) = Rat.divInt a.1 a.2 * Rat.divInt b.1 b.2
  rw [toQ_fr (Lo.nz ha hb), Rat.divInt_mul_divInt]
theorem lo_plus {a b : Int × Int} (ha : 0 < a.2) (hb : 0 < b.2) : Lo (fplus a b) := lo_fr (Lo.nz ha hb)
theorem lo_times {a b : Int × Int} (ha : 0 < a.2) (hb : 0 < b.2) : Lo (ftimes a b) := lo_fr (Lo.nz ha hb)
theorem Okb.lo {k : Nat} {a : Int × Int} (h : Okb k a) : Lo a := ⟨h.1, h.2.2.2⟩
theorem lo_zero : Lo (0, 1) := ⟨by decide, by decide⟩
theorem toQ_zero : toQ (0, 1) = 0 := by
  show Rat.divInt 0 1 = 0
  exact Rat.zero_divInt 1
theorem toQ_one : toQ (1, 1) = 1 := by
  show Rat.divInt 1 1 = 1
  rfl
theorem dvd_cop {a b c : Int} (z : a ∣ b * c) (h : Int.gcd a b = 1) : a ∣ c := by
  rw [← Int.natAbs_dvd_natAbs] at z ⊢
  rw [Int.natAbs_mul] at z
  exact Nat.Coprime.dvd_of_dvd_mul_left h z
/-- in lowest terms there is one pair for a worth -/
theorem toQ_inj {a b : Int × Int} (ha : Lo a) (hb : Lo b) (h : toQ a = toQ b) : a = b := by
  have e : a.1 * b.2 = b.1 * a.2 := (Rat.divInt_eq_divInt_iff (Int.ne_of_gt ha.1) (Int.ne_of_gt hb.1)).mp h
  have d1 : a.2 ∣ b.2 := by
    have z : a.2 ∣ a.1 * b.2 := ⟨b.1, by rw [e, Int.mul_comm]⟩
    exact dvd_cop z (by rw [Int.gcd_comm]; exact ha.2)
  have d2 : b.2 ∣ a.2 := by
    have z : b.2 ∣ b.1 * a.2 := ⟨a.1, by rw [← e, Int.mul_comm]⟩
    exact dvd_cop z (by rw [Int.gcd_comm]; exact hb.2)
  have e2 : a.2 = b.2 := Int.dvd_antisymm (Int.le_of_lt ha.1) (Int.le_of_lt hb.1) d1 d2
  have e1 : a.1 = b.1 := by
    rw [e2] at e
    exact Int.eq_of_mul_eq_mul_right (Int.ne_of_gt hb.1) e
  exact Prod.ext e1 e2
theorem toQ_eq_iff {a b : Int × Int} (ha : Lo a) (hb : Lo b) : a = b ↔ toQ a = toQ b := ⟨fun e => e ▸ rfl, toQ_inj ha hb⟩
theorem toQ_lt_iff {a b : Int × Int} (ha : 0 < a.2) (hb : 0 < b.2) : a.1 * b.2 < b.1 * a.2 ↔ toQ a < toQ b := by
  have hx : ((a.2 : Int) : Rat) ≠ 0 := by
    intro e
    have : a.2 = 0 := by exact_mod_cast e
    omega
  have hy : ((b.2 : Int) : Rat) ≠ 0 := by
    intro e
    have : b.2 = 0 := by exact_mod_cast e
    omega
  have px : (0 : Rat) < ((a.2 : Int) : Rat) := by exact_mod_cast ha
  have py : (0 : Rat) < ((b.2 : Int) : Rat) := by exact_mod_cast hb
  have ea : toQ a * (a.2 : Rat) = (a.1 : Rat) := by
    unfold toQ
    rw [Rat.divInt_eq_div, Rat.div_mul_cancel hx]
  have eb : toQ b * (b.2 : Rat) = (b.1 : Rat) := by
    unfold toQ
    rw [Rat.divInt_eq_div, Rat.div_mul_cancel hy]
  have k1 : ((a.1 * b.2 : Int) : Rat) = toQ a * ((a.2 : Rat) * (b.2 : Rat)) := by
    rw [Rat.intCast_mul, ← ea]; grind
  have k2 : ((b.1 * a.2 : Int) : Rat) = toQ b * ((a.2 : Rat) * (b.2 : Rat)) := by
    rw [Rat.intCast_mul, ← eb]; grind
  have pp : (0 : Rat) < (a.2 : Rat) * (b.2 : Rat) := Rat.mul_pos px py
  rw [← Rat.mul_lt_mul_right pp, ← k1, ← k2]
  exact (Rat.intCast_lt_intCast).symm
/-! ### sums over keys -/
def sumQ {α : Type _} (F : α → Rat) (ks : List α) : Rat := ks.foldr (fun k r => F k + r) 0
theorem sumQ_perm {α : Type _} {F : α → Rat} {ks ls : List α} (h : ks.Perm ls) : sumQ F ks = sumQ F ls :=
  h.foldr_eq' (fun x _ y _ z => by grind) 0
theorem sumQ_filter {α : Type _} {F : α → Rat} {p : α → Bool} : ∀ {ks : List α}, (∀ k ∈ ks, p k = false → F k = 0) → sumQ F (ks.filter p) = sumQ F ks
  | [], _ => rfl
  | k :: ks, h => by
    have i := sumQ_filter (F := F) (p := p) (ks := ks) fun x hx => h x (.tail _ hx)
    cases e : p k with
    | true =>
      rw [List.filter_cons_of_pos e]
      show F k + sumQ F (ks.filter p) = F k + sumQ F ks
      rw [i]
    | false =>
      rw [List.filter_cons_of_neg (by rw [e]; decide), i]
      show sumQ F ks = F k + sumQ F ks
      rw [h k (.head _) e, Rat.zero_add]
open Classical in
/-- a sum over unlike keys hangs on what isn't nought alone -/
theorem sumQ_ext {α : Type _} {F : α → Rat} {ks ls : List α} (nk : ks.Nodup) (nl : ls.Nodup) (hk : ∀ k, k ∉ ks → F k = 0) (hl : ∀ k, k ∉ ls → F k = 0) : sumQ F ks = sumQ F ls := by
  let p : α → Bool := fun k => decide (F k ≠ 0)
  have z : ∀ k, p k = false → F k = 0 := fun k e => by
    have : ¬ (F k ≠ 0) := of_decide_eq_false e
    exact Classical.not_not.mp this
  have t : ∀ k, p k = true → F k ≠ 0 := fun k e => of_decide_eq_true e
  rw [← sumQ_filter (p := p) (ks := ks) fun k _ e => z k e, ← sumQ_filter (p := p) (ks := ls) fun k _ e => z k e]
  refine sumQ_perm ((List.perm_ext_iff_of_nodup (nk.sublist List.filter_sublist) (nl.sublist List.filter_sublist)).mpr fun k => ?_)
  rw [List.mem_filter, List.mem_filter]
  constructor
  · intro ⟨_, e⟩
    exact ⟨Classical.byContradiction fun n => t k e (hl k n), e⟩
  · intro ⟨_, e⟩
    exact ⟨Classical.byContradiction fun n => t k e (hk k n), e⟩
theorem sumQ_add {α : Type _} {F G : α → Rat} : ∀ ks : List α, sumQ (fun k => F k + G k) ks = sumQ F ks + sumQ G ks
  | [] => by show (0 : Rat) = 0 + 0; grind
  | k :: ks => by
    have i := sumQ_add (F := F) (G := G) ks
    show F k + G k + sumQ (fun k => F k + G k) ks = F k + sumQ F ks + (G k + sumQ G ks)
    rw [i]; grind
theorem sumQ_mul {α : Type _} {F : α → Rat} (c : Rat) : ∀ ks : List α, sumQ (fun k => F k * c) ks = sumQ F ks * c
  | [] => by show (0 : Rat) = 0 * c; grind
  | k :: ks => by
    have i := sumQ_mul (F := F) c ks
    show F k * c + sumQ (fun k => F k * c) ks = (F k + sumQ F ks) * c
    rw [i]; grind
theorem sumQ_congr {α : Type _} {F G : α → Rat} : ∀ {ks : List α}, (∀ k ∈ ks, F k = G k) → sumQ F ks = sumQ G ks
  | [], _ => rfl
  | k :: ks, h => by
    show F k + sumQ F ks = G k + sumQ G ks
    rw [h k (.head _), sumQ_congr fun x hx => h x (.tail _ hx)]
/-- a worth, taken key by key -/
def wof {α : Type _} (f g : α → Int × Int) (ks : List α) : Int × Int := ks.foldl (fun acc k => fplus acc (ftimes (f k) (g k))) (0, 1)
theorem wof_gen {α : Type _} {f g : α → Int × Int} (hf : ∀ k, Lo (f k)) (hg : ∀ k, Lo (g k)) : ∀ (ks : List α) (acc : Int × Int), Lo acc →
    Lo (ks.foldl (fun acc k => fplus acc (ftimes (f k) (g k))) acc) ∧ toQ (ks.foldl (fun acc k => fplus acc (ftimes (f k) (g k))) acc) = toQ acc + sumQ (fun k => toQ (f k) * toQ (g k)) ks
  | [], acc, h => ⟨h, by show toQ acc = toQ acc + 0; grind⟩
  | k :: ks, acc, h => by
    have t := lo_times (hf k).1 (hg k).1
    obtain ⟨i1, i2⟩ := wof_gen hf hg ks _ (lo_plus h.1 t.1)
    refine ⟨i1, ?_⟩
    show toQ (ks.foldl (fun acc k => fplus acc (ftimes (f k) (g k))) (fplus acc (ftimes (f k) (g k)))) = _
    rw [i2, toQ_plus h.1 t.1, toQ_times (hf k).1 (hg k).1]
    show _ = toQ acc + (toQ (f k) * toQ (g k) + sumQ (fun k => toQ (f k) * toQ (g k)) ks)
    grind
theorem wof_lo {α : Type _} {f g : α → Int × Int} (hf : ∀ k, Lo (f k)) (hg : ∀ k, Lo (g k)) (ks : List α) : Lo (wof f g ks) := (wof_gen hf hg ks _ lo_zero).1
theorem wof_q {α : Type _} {f g : α → Int × Int} (hf : ∀ k, Lo (f k)) (hg : ∀ k, Lo (g k)) (ks : List α) : toQ (wof f g ks) = sumQ (fun k => toQ (f k) * toQ (g k)) ks := by
  have e := (wof_gen hf hg ks _ lo_zero).2
  rw [toQ_zero, Rat.zero_add] at e
  exact e
open Classical in
/-- the worth of a sum of sums -/
theorem wof_plus {α : Type _} {f g h p : α → Int × Int} {ks ls ms : List α} (hf : ∀ k, Lo (f k)) (hg : ∀ k, Lo (g k)) (hh : ∀ k, Lo (h k)) (hp : ∀ k, Lo (p k))
    (nk : ks.Nodup) (nl : ls.Nodup) (nm : ms.Nodup) (ok : ∀ k, k ∉ ks → f k = (0, 1)) (ol : ∀ k, k ∉ ls → g k = (0, 1)) (om : ∀ k, k ∉ ms → h k = (0, 1)) (e : ∀ k, toQ (h k) = toQ (f k) + toQ (g k)) :
    wof h p ms = fplus (wof f p ks) (wof g p ls) := by
  have lf := wof_lo hf hp ks
  have lg := wof_lo hg hp ls
  refine toQ_inj (wof_lo hh hp ms) (lo_plus lf.1 lg.1) ?_
  rw [toQ_plus lf.1 lg.1, wof_q hh hp, wof_q hf hp, wof_q hg hp]
  let us := (ks ++ (ls.filter fun k => decide (k ∉ ks)))
  let vs := us ++ (ms.filter fun k => decide (k ∉ us))
  have nus : us.Nodup := List.nodup_append.mpr ⟨nk, nl.sublist List.filter_sublist, fun a ha b hb e => by
    subst e
    exact of_decide_eq_true (List.mem_filter.mp hb).2 ha⟩
  have nvs : vs.Nodup := List.nodup_append.mpr ⟨nus, nm.sublist List.filter_sublist, fun a ha b hb e => by
    subst e
    exact of_decide_eq_true (List.mem_filter.mp hb).2 ha⟩
  have iu : ∀ k, k ∉ us → k ∉ ks ∧ k ∉ ls := fun k n => ⟨fun c => n (List.mem_append_left _ c), fun c => n (by
    by_cases z : k ∈ ks
    · exact List.mem_append_left _ z
    · exact List.mem_append_right _ (List.mem_filter.mpr ⟨c, decide_eq_true z⟩))⟩
  have iv : ∀ k, k ∉ vs → k ∉ us ∧ k ∉ ms := fun k n => ⟨fun c => n (List.mem_append_left _ c), fun c => n (by
    by_cases z : k ∈ us
    · exact List.mem_append_left _ z
    · exact List.mem_append_right _ (List.mem_filter.mpr ⟨c, decide_eq_true z⟩))⟩
  have zz : ∀ {f' : α → Int × Int} {k : α}, f' k = (0, 1) → toQ (f' k) * toQ (p k) = 0 := fun e => by rw [e, toQ_zero, Rat.zero_mul]
  rw [sumQ_ext (F := fun k => toQ (h k) * toQ (p k)) nm nvs (fun k n => zz (om k n)) (fun k n => zz (om k (iv k n).2)),
    sumQ_ext (F := fun k => toQ (f k) * toQ (p k)) nk nvs (fun k n => zz (ok k n)) (fun k n => zz (ok k (iu k (iv k n).1).1)),
    sumQ_ext (F := fun k => toQ (g k) * toQ (p k)) nl nvs (fun k n => zz (ol k n)) (fun k n => zz (ol k (iu k (iv k n).1).2)),
    ← sumQ_add]
  exact sumQ_congr fun k _ => by rw [e k]; grind
/-- the worth of a sum so many times -/
theorem wof_times {α : Type _} {f h p : α → Int × Int} {n : Int × Int} {ks ms : List α} (hf : ∀ k, Lo (f k)) (hh : ∀ k, Lo (h k)) (hp : ∀ k, Lo (p k)) (hn : Lo n)
    (nk : ks.Nodup) (nm : ms.Nodup) (ok : ∀ k, k ∉ ks → f k = (0, 1)) (om : ∀ k, k ∉ ms → h k = (0, 1)) (e : ∀ k, toQ (h k) = toQ (f k) * toQ n) : wof h p ms = ftimes (wof f p ks) n := by
  have lf := wof_lo hf hp ks
  refine toQ_inj (wof_lo hh hp ms) (lo_times lf.1 hn.1) ?_
  rw [toQ_times lf.1 hn.1, wof_q hh hp, wof_q hf hp, ← sumQ_mul]
  have z0 : ∀ k, k ∉ ks → toQ (f k) * toQ (p k) * toQ n = 0 := fun k c => by rw [ok k c, toQ_zero]; grind
  rw [sumQ_ext (F := fun k => toQ (f k) * toQ (p k) * toQ n) (ks := ks) (ls := ms) nk nm z0 (fun k c => by
    have z : toQ (h k) = 0 := by rw [om k c, toQ_zero]
    have z2 := e k
    rw [z] at z2
    have : toQ (f k) * toQ (p k) * toQ n = (toQ (f k) * toQ n) * toQ (p k) := by grind
    rw [this, ← z2, Rat.zero_mul])]
  exact sumQ_congr fun k _ => by rw [e k]; grind
end SS

namespace SS
open PySem PySem.Spec PyProof.Rows L2
/-! ### worths of dicts that are functions -/
theorem wof_take {f g : Key → Int × Int} {kvs : List (Key × V)} {i : Nat} {p : Key × V} (h : kvs[i]? = some p) :
    wof f g ((kvs.take (i + 1)).map (·.1)) = fplus (wof f g ((kvs.take i).map (·.1))) (ftimes (f p.1) (g p.1)) := by
  unfold wof
  rw [List.take_add_one, h]
  show ((kvs.take i ++ [p]).map (·.1)).foldl _ (0, 1) = _
  rw [List.map_append, List.foldl_append]
  rfl
theorem wb_step {c i : Nat} (h : 2 ≤ c) : c * (i + 1) + (c - 2) + 1 ≤ c * (i + 1 + 1) := by
  have e : c * (i + 1 + 1) = c * (i + 1) + c := Nat.mul_succ ..
  omega
theorem wb_le {c i m : Nat} (h : i ≤ m) (hm : c * (m + 1) ≤ 3000) : c * (i + 1) ≤ 3000 := Nat.le_trans (Nat.mul_le_mul_left c (by omega)) hm
theorem wb_c {c m : Nat} (hm : c * (m + 1) ≤ 3000) : c ≤ 3000 := by
  have := wb_le (c := c) (i := 0) (Nat.zero_le m) hm
  omega
def Lk (a : Addr) (H H' : Hp) : Prop := ∀ b o, b ≠ a → H b = some o → H' b = some o
section
variable {P : Program} {w : World} {K : PySem.W.Frag} {mg : Str → Option Value} {base : Heap}
def spWorth (K : PySem.W.Frag) : Sp := fun vs H Q _ => ∃ (a b : Addr) (kvs ls : List (Key × V)) (f g : Key → Int × Int) (z z' : Prop) (m m' A B : Nat), vs = [.ref a, .ref b] ∧ DM z m H a kvs f ∧ DM z' m' H b ls g ∧
  (∀ k, Okb A (f k)) ∧ (∀ k, Okb B (g k)) ∧ (A + B + 2) * (m + 1) ≤ 3000 ∧ a ≠ b ∧
  ∀ H' r, Same H H' → FrT K H' r (wof f g (kvs.map (·.1))).1 (wof f g (kvs.map (·.1))).2 → Okb ((A + B + 2) * (m + 1)) (wof f g (kvs.map (·.1))) → Q (.ref r) H'
end
end SS

namespace SS
open PySem PySem.Spec PyProof.Rows L2
/-! ### dicts put together of pairs -/
def PM (H : Hp) (n : Nat) (kvs : List (Key × V)) (g : Key → Int × Int) : Prop := (kvs.map (·.1)).Nodup ∧ kvs.length ≤ n ∧
  (∀ p ∈ kvs, (∃ x, p.1 = .inr x ∧ NmOk x) ∧ (∃ r, p.2 = .ref r ∧ H r = some (.tup [.int (g p.1).1, .int (g p.1).2]))) ∧ ∀ k, valV kvs k = none → g k = (0, 1)
theorem PM.put {H : Hp} {n : Nat} {kvs : List (Key × V)} {g : Key → Int × Int} {x : Str} {r : Addr} {v : Int × Int} (h : PM H n kvs g) (hx : NmOk x) (hr : H r = some (.tup [.int v.1, .int v.2])) :
    PM H (n + 1) (putK kvs (.inr x) (.ref r)) (fun k => if k = .inr x then v else g k) := by
  obtain ⟨h2, h3, h4, h5⟩ := h
  have hv := valV_put kvs (.inr x) (y := .ref r)
  refine ⟨nd_put _ _ h2, Nat.le_trans (length_putK ..) (Nat.succ_le_succ h3), fun p hp => ?_, fun k e => ?_⟩
  · have e0 : valV (putK kvs (.inr x) (.ref r)) p.1 = some p.2 := val_nodup (nd_put _ _ h2) p hp
    rw [hv] at e0
    by_cases c : p.1 = .inr x
    · rw [if_pos c] at e0
      dsimp only
      rw [if_pos c]
      exact ⟨⟨x, c, hx⟩, ⟨r, (Option.some.inj e0).symm, hr⟩⟩
    · rw [if_neg c] at e0
      dsimp only
      rw [if_neg c]
      obtain ⟨q, hq, e1, e2⟩ := mem_valV e0
      obtain ⟨g1, ⟨r', g2, g3⟩⟩ := h4 q hq
      rw [e1] at g1 g3
      rw [e2] at g2
      exact ⟨g1, ⟨r', g2, g3⟩⟩
  · rw [hv] at e
    by_cases c : k = .inr x
    · rw [if_pos c] at e
      cases e
    · rw [if_neg c] at e
      show (if k = .inr x then v else g k) = (0, 1)
      rw [if_neg c]
      exact h5 k e
/-- a name and a fraction -/
def NF (B : Nat) (H : Hp) (p : Key × V) : Prop := ∃ (x : Str) (r : Addr) (v : Int × Int), p = (.inr x, .ref r) ∧ NmOk x ∧ H r = some (.tup [.int v.1, .int v.2]) ∧ Okb B v
theorem PM.merge {H : Hp} {B : Nat} : ∀ (ks acc : List (Key × V)) (n : Nat) (g : Key → Int × Int), PM H n acc g → (∀ k, Okb B (g k)) → (∀ p ∈ ks, NF B H p) → ∃ g', PM H (n + ks.length) (mergeK acc ks) g' ∧ ∀ k, Okb B (g' k)
  | [], acc, n, g, h, ok, _ => ⟨g, h, ok⟩
  | p :: ks, acc, n, g, h, ok, hp => by
    obtain ⟨x, r, v, rfl, hx, hr, hv⟩ := hp p (.head _)
    have h' := h.put hx hr
    obtain ⟨g', i1, i2⟩ := PM.merge ks _ _ _ h' (fun k => by
      by_cases c : k = .inr x
      · rw [if_pos c]
        exact hv
      · rw [if_neg c]
        exact ok k) fun q hq => hp q (.tail _ hq)
    refine ⟨g', ?_, i2⟩
    have e : n + (((.inr x, V.ref r) : Key × V) :: ks).length = n + 1 + ks.length := by
      rw [List.length_cons]
      omega
    rw [e]
    exact i1
theorem PM.new (H : Hp) : PM H 0 [] (fun _ => (0, 1)) := ⟨List.nodup_nil, Nat.le_refl _, fun p hp => absurd hp List.not_mem_nil, fun _ _ => rfl⟩
theorem PM.dm {H : Hp} {n : Nat} {kvs : List (Key × V)} {g : Key → Int × Int} {c : Addr} (h : PM H n kvs g) (nc : H c = none) : DM False n (upd H c (.dK kvs)) c kvs g := by
  obtain ⟨h2, h3, h4, h5⟩ := h
  refine ⟨upd_same, h2, h3, fun p hp => ?_, h5⟩
  obtain ⟨e1, r, e2, e3⟩ := h4 p hp
  exact ⟨e1, ⟨r, e2, same_new nc _ _ e3⟩, fun z => z.elim⟩
/-! ### what keeps tells -/
abbrev sorts : List Str := ["is", "most", "least", "below", "above"]
def keptB (s : Str) (W N : Rat) : Bool := if s = "is" then decide (W = N) else if s = "most" then decide (W ≤ N) else if s = "least" then decide (N ≤ W) else if s = "below" then decide (W < N) else decide (N < W)
theorem kept_is (W N : Rat) : keptB "is" W N = decide (W = N) := if_pos rfl
theorem kept_most (W N : Rat) : keptB "most" W N = decide (W ≤ N) := by
  unfold keptB
  rw [if_neg (by decide +kernel), if_pos rfl]
theorem kept_least (W N : Rat) : keptB "least" W N = decide (N ≤ W) := by
  unfold keptB
  rw [if_neg (by decide +kernel), if_neg (by decide +kernel), if_pos rfl]
theorem kept_below (W N : Rat) : keptB "below" W N = decide (W < N) := by
  unfold keptB
  rw [if_neg (by decide +kernel), if_neg (by decide +kernel), if_neg (by decide +kernel), if_pos rfl]
theorem kept_above (W N : Rat) : keptB "above" W N = decide (N < W) := by
  unfold keptB
  rw [if_neg (by decide +kernel), if_neg (by decide +kernel), if_neg (by decide +kernel), if_neg (by decide +kernel)]
theorem kept_all (W N : Rat) : keptB "is" W N = (keptB "most" W N && keptB "least" W N) ∧ keptB "below" W N = !keptB "least" W N ∧ keptB "above" W N = !keptB "most" W N := by
  rw [kept_is, kept_most, kept_least, kept_below, kept_above]
  refine ⟨?_, ?_, ?_⟩
  · rw [← Bool.decide_and]
    exact decide_eq_decide.mpr ⟨fun h => by rw [h]; exact ⟨Rat.le_refl, Rat.le_refl⟩, fun h => Rat.le_antisymm h.1 h.2⟩
  · rw [← decide_not]
    exact decide_eq_decide.mpr Rat.not_le.symm
  · rw [← decide_not]
    exact decide_eq_decide.mpr Rat.not_le.symm
section
variable {P : Program} {w : World} {K : PySem.W.Frag} {mg : Str → Option Value} {base : Heap}
def spRowOf (K : PySem.W.Frag) : Sp := fun vs H Q _ => ∃ (a n : Addr) (srt : Str) (kvs : List (Key × V)) (f : Key → Int × Int) (num : Int × Int), vs = [.ref a, .str srt, .ref n] ∧ DM True 10 H a kvs f ∧ FrT K H n num.1 num.2 ∧ srt ∈ sorts ∧
  (∀ k, Okb 2000 (f k)) ∧ Okb 2000 num ∧ ∀ H' r a' n' ks, Same H H' → H r = none → H a' = none → H' r = some (.tup [.ref a', .str srt, .ref n']) → DM True 10 H' a' ks f → FrT K H' n' num.1 num.2 → Q (.ref r) H'
def spKeeps (K : PySem.W.Frag) : Sp := fun vs H Q _ => ∃ (r a b n : Addr) (srt : Str) (kvs ls : List (Key × V)) (f g : Key → Int × Int) (num : Int × Int) (z z' : Prop) (m m' A B : Nat), vs = [.ref r, .ref b] ∧ H r = some (.tup [.ref a, .str srt, .ref n]) ∧
  DM z m H a kvs f ∧ DM z' m' H b ls g ∧ FrT K H n num.1 num.2 ∧ srt ∈ sorts ∧ (∀ k, Okb A (f k)) ∧ (∀ k, Okb B (g k)) ∧ Okb 3000 num ∧ (A + B + 2) * (m + 1) ≤ 3000 ∧ a ≠ b ∧
  ∀ H', Same H H' → Q (.bl (keptB srt (toQ (wof f g (kvs.map (·.1)))) (toQ num))) H'
end
end SS

namespace SS
open PySem PySem.Spec PyProof.Rows L2
section
variable {P : Program} {w : World} {K : PySem.W.Frag} {mg : Str → Option Value} {base : Heap}
/-! ### the law's own worth -/
/-! ### less -/
def spLess (K : PySem.W.Frag) : Sp := fun vs H Q _ => ∃ n1 d1 n2 d2 : Int, Two K H vs n1 d1 n2 d2 ∧ Q (.bl (decide (n1 * d2 < n2 * d1))) H
end
end SS

namespace SS
open PySem PySem.Spec PyProof.Rows L2
theorem NF.keep {B : Nat} {H H' : Hp} {p : Key × V} (h : NF B H p) (k : ∀ r xs, H r = some (.tup xs) → H' r = some (.tup xs)) : NF B H' p := by
  obtain ⟨x, r, v, h1, h2, h3, h4⟩ := h
  exact ⟨x, r, v, h1, h2, k _ _ h3, h4⟩
theorem DM.keep {z : Prop} {m : Nat} {H H' : Hp} {a : Addr} {kvs : List (Key × V)} {f : Key → Int × Int} (h : DM z m H a kvs f) (ha : H' a = some (.dK kvs)) (k : ∀ r xs, H r = some (.tup xs) → H' r = some (.tup xs)) : DM z m H' a kvs f := by
  obtain ⟨_, h2, h3, h4, h5⟩ := h
  refine ⟨ha, h2, h3, fun p hp => ?_, h5⟩
  obtain ⟨e1, ⟨r, e2, e3⟩, e4⟩ := h4 p hp
  exact ⟨e1, ⟨r, e2, k _ _ e3⟩, e4⟩
theorem DM.st {z : Prop} {m : Nat} {H : Hp} {a st c : Addr} {kvs : List (Key × V)} {f : Key → Int × Int} (h : DM z m H a kvs f) (s : StA st c H) : a ≠ st := fun e => by
  obtain ⟨i, n, ff, xs, g1, _⟩ := s
  have h1 := h.1
  rw [e, g1] at h1
  cases h1
theorem wof_ext {α : Type _} {f g : α → Int × Int} {ks ls : List α} (hf : ∀ k, Lo (f k)) (hg : ∀ k, Lo (g k)) (nk : ks.Nodup) (nl : ls.Nodup) (ok : ∀ k, k ∉ ks → f k = (0, 1)) (ol : ∀ k, k ∉ ls → f k = (0, 1)) : wof f g ks = wof f g ls := by
  refine toQ_inj (wof_lo hf hg ks) (wof_lo hf hg ls) ?_
  rw [wof_q hf hg, wof_q hf hg]
  exact sumQ_ext nk nl (fun k n => by rw [ok k n, toQ_zero, Rat.zero_mul]) (fun k n => by rw [ol k n, toQ_zero, Rat.zero_mul])
def kd5 (h : Str → Bool) (l : List Str) : List (Key × V) := l.map fun s => (.inr s, .bl (h s))
theorem kd5_in {h : Str → Bool} {s : Str} : ∀ {l : List Str}, s ∈ l → valV (kd5 h l) (.inr s) = some (.bl (h s))
  | [], e => absurd e List.not_mem_nil
  | x :: l, e => by
    unfold valV kd5
    rw [List.map_cons]
    by_cases c : x = s
    · subst c
      rw [List.find?_cons_of_pos (by exact decide_eq_true rfl)]
      rfl
    · rw [List.find?_cons_of_neg (by
        intro z
        exact c (Sum.inr.inj (of_decide_eq_true z)))]
      exact kd5_in (l := l) ((List.mem_cons.mp e).resolve_left fun z => c z.symm)
theorem kd5_out {h : Str → Bool} {s : Str} : ∀ {l : List Str}, s ∉ l → valV (kd5 h l) (.inr s) = none
  | [], _ => rfl
  | x :: l, e => by
    unfold valV kd5
    rw [List.map_cons, List.find?_cons_of_neg (by
        intro z
        exact e (List.mem_cons.mpr (.inl (Sum.inr.inj (of_decide_eq_true z)).symm)))]
    exact kd5_out (l := l) fun z => e (List.mem_cons_of_mem _ z)
theorem sorts_out : ∀ i : Nat, i < 5 → ∀ s, sorts[i]? = some s → s ∉ sorts.take i := by decide +kernel
end SS

namespace SS
open PySem PySem.Spec PyProof.Rows L2
theorem kept_vals {W N : Int × Int} (hW : 0 < W.2) (hN : 0 < N.2) {lh mo : Bool} (e1 : decide (W.1 * N.2 < N.1 * W.2) = lh) (e2 : decide (N.1 * W.2 < W.1 * N.2) = mo) :
    ([(.inr "is", V.bl (!lh && !mo)), (.inr "most", .bl (!mo)), (.inr "least", .bl (!lh)), (.inr "below", .bl lh), (.inr "above", .bl mo)] : List (Key × V)) = kd5 (fun s => keptB s (toQ W) (toQ N)) sorts := by
  have l1 : keptB "below" (toQ W) (toQ N) = lh := by
    rw [kept_below, ← e1]
    exact decide_eq_decide.mpr (toQ_lt_iff hW hN).symm
  have l2 : keptB "above" (toQ W) (toQ N) = mo := by
    rw [kept_above, ← e2]
    exact decide_eq_decide.mpr (toQ_lt_iff hN hW).symm
  obtain ⟨ka, kb, kc⟩ := kept_all (toQ W) (toQ N)
  have l3 : keptB "least" (toQ W) (toQ N) = !lh := by rw [← l1, kb, Bool.not_not]
  have l4 : keptB "most" (toQ W) (toQ N) = !mo := by rw [← l2, kc, Bool.not_not]
  have l5 : keptB "is" (toQ W) (toQ N) = (!lh && !mo) := by rw [ka, l3, l4, Bool.and_comm]
  show _ = [((.inr "is" : Key), V.bl (keptB "is" (toQ W) (toQ N))), (.inr "most", .bl (keptB "most" (toQ W) (toQ N))), (.inr "least", .bl (keptB "least" (toQ W) (toQ N))), (.inr "below", .bl (keptB "below" (toQ W) (toQ N))), (.inr "above", .bl (keptB "above" (toQ W) (toQ N)))]
  rw [l1, l2, l3, l4, l5]
theorem sorts_nd : (sorts.map fun s => (.inr s : Key)).Nodup := by decide +kernel
theorem merge5 (b1 b2 b3 b4 b5 : Bool) : mergeK [] ([(.inr "is", V.bl b1), (.inr "most", .bl b2), (.inr "least", .bl b3), (.inr "below", .bl b4), (.inr "above", .bl b5)] : List (Key × V)) = [(.inr "is", V.bl b1), (.inr "most", .bl b2), (.inr "least", .bl b3), (.inr "below", .bl b4), (.inr "above", .bl b5)] :=
  merge_nd [(.inr "is", V.bl b1), (.inr "most", .bl b2), (.inr "least", .bl b3), (.inr "below", .bl b4), (.inr "above", .bl b5)] [] sorts_nd
section
variable {P : Program} {w : World} {K : PySem.W.Frag} {mg : Str → Option Value} {base : Heap}
end
end SS

namespace SS
open PySem PySem.Spec PyProof.Rows L2
section
variable {P : Program} {w : World} {K : PySem.W.Frag} {mg : Str → Option Value} {base : Heap}
/-! ### short fractions, whole points -/
def spShort (K : PySem.W.Frag) : Sp := fun vs H Q _ => ∃ (p : Addr) (N : Int × Int), vs = [.ref p] ∧ FrT K H p N.1 N.2 ∧ Okb 3000 N ∧ ∀ H' r (M : Int × Int), Same H H' → FrT K H' r M.1 M.2 → Okb 11 M → Q (.ref r) H'
theorem okb_whole {i : Int} (h : i.natAbs < 2 ^ 11) : Okb 11 (i, 1) := ⟨(by show (0 : Int) < 1; decide), h, (by show (1 : Int).natAbs < 2 ^ 11; decide), Int.gcd_one_right i⟩
def spSpoint : Sp := fun vs H Q _ => ∃ (st c u : Addr) (xs : List Str), vs = [.ref st, .ref u] ∧ StA st c H ∧ H u = some (.lst (xs.map V.str)) ∧ xs.length ≤ 9 ∧ (∀ x ∈ xs, NmOk x) ∧
  ∀ H' a kvs g, But st H H' → StA st c H' → H a = none → DM False 10 H' a kvs g → (∀ k, Okb 20 (g k)) → Q (.ref a) H'
end
end SS

namespace SS
open PySem PySem.Spec PyProof.Rows L2
section
variable {P : Program} {w : World} {K : PySem.W.Frag} {mg : Str → Option Value} {base : Heap}
theorem eqv_fr (a b : Int × Int) : PyData.eqv (.tuple [.int a.1, .int a.2]) (.tuple [.int b.1, .int b.2]) = decide (a = b) := by
  have e : PyData.eqv (.tuple [.int a.1, .int a.2]) (.tuple [.int b.1, .int b.2]) = (a.1 == b.1 && a.2 == b.2) := by
    simp [PyData.eqv, PyData.eqvAll]
  rw [e, Bool.eq_iff_iff, Bool.and_eq_true, beq_iff_eq, beq_iff_eq, decide_eq_true_iff]
  exact ⟨fun h => Prod.ext h.1 h.2, fun h => by rw [h]; exact ⟨rfl, rfl⟩⟩
end
end SS

namespace SS
open PySem PySem.Spec PyProof.Rows L2
/-! ### tables of generator expressions: all else stays -/
def Tabs (T : List Addr) (H : Hp) : Prop := ∀ P ∈ T, GxR.TabG H P
structure SameT (T : List Addr) (H H' : Hp) : Prop where
  ext : ∀ b o, H b = some o → (∀ ps, o ≠ .tbl ps) → H' b = some o
  tab : Tabs T H'
  free : ∀ {b}, H' b = none → H b = none
section
variable {T : List Addr} {H H1 H2 H' : Hp} {P : Addr}
theorem SameT.refl (h : Tabs T H) : SameT T H H := ⟨fun _ _ e _ => e, h, fun e => e⟩
theorem SameT.trans (a : SameT T H H1) (b : SameT T H1 H2) : SameT T H H2 := ⟨fun x o e n => b.ext x o (a.ext x o e n) n, b.tab, fun e => a.free (b.free e)⟩
theorem Tabs.same (h : Tabs T H) (s : Same H H') : Tabs T H' := fun P hP => by
  obtain ⟨ps, e, r⟩ := h P hP
  exact ⟨ps, s _ _ e, r⟩
theorem Tabs.but {st c : Addr} (h : Tabs T H) (s : But st H H') (y : StA st c H) : Tabs T H' := fun P hP => by
  obtain ⟨ps, e, r⟩ := h P hP
  refine ⟨ps, s _ _ (fun z => ?_) e, r⟩
  obtain ⟨i, n, f, xs, h1, _⟩ := y
  rw [z, h1] at e
  cases e
/-- an object that is no table changes -/
theorem Tabs.upd {a : Addr} {o u : HO} (h : Tabs T H) (ha : H a = some u) (nu : ∀ ps, u ≠ .tbl ps) : Tabs T (upd H a o) := fun P hP => by
  obtain ⟨ps, e, r⟩ := h P hP
  refine ⟨ps, ?_, r⟩
  rw [upd_ne fun z => ?_]
  · exact e
  · rw [z, ha] at e
    exact nu ps (Option.some.inj e)
theorem SameT.of (h : Tabs T H) (s : Same H H') : SameT T H H' := ⟨fun b o e _ => s b o e, h.same s, fun e => s.free e⟩
theorem SameT.tabbed (h : Tabs T H) (hP : GxR.TabG H P) (t : GxR.Tabbed P H H') : SameT T H H' := by
  refine ⟨fun b o e n => ?_, fun R hR => ?_, fun {b} e => ?_⟩
  · by_cases c : b = P
    · obtain ⟨ps, e', _⟩ := hP
      rw [c, e'] at e
      exact absurd (Option.some.inj e).symm (n ps)
    · rw [t.2 b c]
      exact e
  · by_cases c : R = P
    · rw [c]
      exact t.1
    · obtain ⟨ps, e, r⟩ := h R hR
      exact ⟨ps, by rw [t.2 R c]; exact e, r⟩
  · by_cases c : b = P
    · obtain ⟨⟨ps, e', _⟩, _⟩ := t
      rw [c, e'] at e
      cases e
    · rw [t.2 b c] at e
      exact e
/-- a dict is locked, and unlocked behind it -/
theorem SameT.unlock {a : Addr} {od : Obj} {kvs : List (Key × V)} (ha : H a = some (.dK kvs)) (s : SameT T (upd H a (.frz od (.dK kvs))) H') (ha' : H' a = some (.frz od (.dK kvs))) : SameT T H (upd H' a (.dK kvs)) := by
  refine ⟨fun b o e n => ?_, s.tab.upd ha' (fun ps z => by cases z), fun {b} e => ?_⟩
  · by_cases c : b = a
    · rw [c] at e ⊢
      rw [upd_same, ← ha]
      exact e
    · rw [upd_ne c]
      exact s.ext b o (by rw [upd_ne c]; exact e) n
  · by_cases c : b = a
    · rw [c, upd_same] at e
      cases e
    · rw [upd_ne c] at e
      have z := s.free e
      rw [upd_ne c] at z
      exact z
/-- tuples and lists stay -/
def KTL (H H' : Hp) : Prop := ∀ b xs, (H b = some (.tup xs) → H' b = some (.tup xs)) ∧ (H b = some (.lst xs) → H' b = some (.lst xs)) ∧ ∀ ob, H b = some (.frz ob (.tup xs)) → H' b = some (.frz ob (.tup xs))
theorem SameT.ktl (s : SameT T H H') : KTL H H' := fun b xs => ⟨fun e => s.ext _ _ e (fun ps z => by cases z), fun e => s.ext _ _ e (fun ps z => by cases z), fun ob e => s.ext _ _ e (fun ps z => by cases z)⟩
theorem KTL.trans (a : KTL H H1) (b : KTL H1 H2) : KTL H H2 := fun x xs => ⟨fun e => (b x xs).1 ((a x xs).1 e), fun e => (b x xs).2.1 ((a x xs).2.1 e), fun ob e => (b x xs).2.2 ob ((a x xs).2.2 ob e)⟩
theorem KTL.dict {a : Addr} {kvs : List (Key × V)} {o : HO} (ha : H a = some (.dK kvs)) : KTL H (upd H a o) := fun b xs => by
  have ne : ∀ u, H b = some u → (∀ ks, u ≠ .dK ks) → b ≠ a := fun u e n z => by
    rw [z, ha] at e
    exact n kvs (Option.some.inj e).symm
  refine ⟨fun e => ?_, fun e => ?_, fun ob e => ?_⟩ <;> rw [upd_ne (ne _ e fun ks z => by cases z)] <;> exact e
theorem SqT.ktl {K : PySem.W.Frag} {p : Addr} {xs : List V} (h : SqT K H p xs) (k : KTL H H') : SqT K H' p xs := by
  rcases h with (h | ⟨o, h⟩) | h
  · exact .inl (.inl ((k _ _).1 h))
  · exact .inl (.inr ⟨o, (k _ _).2.2 _ h⟩)
  · exact .inr h
theorem FrT.ktl {K : PySem.W.Frag} {p : Addr} {n d : Int} (h : FrT K H p n d) (s : KTL H H') : FrT K H' p n d := by
  obtain ⟨h1, h2⟩ := h
  rcases h1 with (h1 | ⟨o, h1⟩) | ⟨o, its, m, k1, k2, k3⟩
  · exact FrT.of ((s _ _).1 h1)
  · exact ⟨.inl (.inr ⟨o, (s _ _).2.2 _ h1⟩), .fTuple ((s _ _).2.2 _ h1)⟩
  · exact ⟨.inr ⟨o, its, m, k1, k2, k3⟩, .kTuple k1 k2⟩
theorem SqT.ty {K : PySem.W.Frag} {p : Addr} {xs : List V} (h : SqT K H p xs) : TyX K H (.ref p) (.type "tuple") := by
  rcases h with (h | ⟨o, h⟩) | ⟨o, its, n, k1, k2, k3⟩
  · exact .base (.tup h)
  · exact .fTuple h
  · exact .kTuple k1 k2
theorem DM.sameT {z : Prop} {m : Nat} {a : Addr} {kvs : List (Key × V)} {f : Key → Int × Int} (h : DM z m H a kvs f) (s : SameT T H H') : DM z m H' a kvs f := by
  obtain ⟨h1, h2, h3, h4, h5⟩ := h
  refine ⟨s.ext _ _ h1 (fun ps z => by cases z), h2, h3, fun p hp => ?_, h5⟩
  obtain ⟨e1, ⟨r, e2, e3⟩, e4⟩ := h4 p hp
  exact ⟨e1, ⟨r, e2, s.ext _ _ e3 (fun ps z => by cases z)⟩, e4⟩
end
/-! ### whole numbers, fractions, names of anything -/
/-- things that are no numbers: what they are -/
inductive Odd (K : PySem.W.Frag) (H : Hp) : V → String → Prop where
  | non : Odd K H .non "NoneType"
  | str (x : Str) : Odd K H (.str x) "str"
  | lst {p : Addr} {xs : List V} (h : H p = some (.lst xs)) : Odd K H (.ref p) "list"
  | tup {p : Addr} {xs : List V} (h : SqT K H p xs) : Odd K H (.ref p) "tuple"
  | dct {p : Addr} {ks : List (Key × V)} (h : H p = some (.dK ks)) : Odd K H (.ref p) "dict"
theorem Odd.ty {K : PySem.W.Frag} {H : Hp} {v : V} {t : String} (h : Odd K H v t) : TyX K H v (.type t) := by
  cases h with
  | non => exact .base .non
  | str x => exact .base (.str x)
  | lst h => exact .base (.lst h)
  | tup h => exact SqT.ty h
  | dct h => exact .base (.dK h)
def WhB (K : PySem.W.Frag) (H : Hp) (v : V) (b : Bool) : Prop := (∃ i, v = .int i ∧ b = true) ∨ (∃ t, v = .bl t ∧ b = false) ∨ ∃ t, Odd K H v t ∧ b = false
theorem odd_kit {K : PySem.W.Frag} {H : Hp} {v : V} {t : String} (h : Odd K H v t) : PySem.W.kitOne K (.type t) (.type "int") = some false := by
  cases h <;> exact kit_ty (by decide +kernel)
/-- is a fraction, by b; no dict is asked for its inside -/
def FracB (K : PySem.W.Frag) (H : Hp) (v : V) (b : Bool) : Prop :=
  (((∃ i, v = .int i) ∨ (∃ t, v = .bl t) ∨ v = .non ∨ (∃ x, v = .str x) ∨ ∃ p xs, v = .ref p ∧ H p = some (.lst xs)) ∧ b = false) ∨
  ∃ p xs, v = .ref p ∧ SqT K H p xs ∧ ((xs.length ≠ 2 ∧ b = false) ∨ ∃ x y, xs = [x, y] ∧ ((∃ n d, x = .int n ∧ y = .int d ∧ b = decide (1 ≤ d ∧ Int.gcd n d = 1)) ∨ (((∃ t, x = .bl t) ∨ ∃ n t, x = .int n ∧ y = .bl t) ∧ b = false)))
theorem FracB.ktl {K : PySem.W.Frag} {H H' : Hp} {v : V} {b : Bool} (h : FracB K H v b) (k : KTL H H') : FracB K H' v b := by
  rcases h with ⟨h, e⟩ | ⟨p, xs, e, h, r⟩
  · refine .inl ⟨?_, e⟩
    rcases h with h | h | h | h | ⟨p, xs, e1, e2⟩
    · exact .inl h
    · exact .inr (.inl h)
    · exact .inr (.inr (.inl h))
    · exact .inr (.inr (.inr (.inl h)))
    · exact .inr (.inr (.inr (.inr ⟨p, xs, e1, (k _ _).2.1 e2⟩)))
  · exact .inr ⟨p, xs, e, SqT.ktl h k, r⟩
theorem FracB.fr {K : PySem.W.Frag} {H : Hp} {p : Addr} {n d : Int} (h : FrT K H p n d) (hd : 0 < d) (hg : Int.gcd n d = 1) : FracB K H (.ref p) true :=
  .inr ⟨p, _, rfl, h.1, .inr ⟨_, _, rfl, .inl ⟨n, d, rfl, rfl, (decide_eq_true ⟨by omega, hg⟩).symm⟩⟩⟩
theorem abc_in : ∀ i : Nat, i ∈ abc.cps.toList → 97 ≤ i ∧ i ≤ 122 := by
  have h : ∀ i ∈ abc.cps.toList, 97 ≤ i ∧ i ≤ 122 := by decide +kernel
  exact h
section
variable {P : Program} {w : World} {K : PySem.W.Frag} {mg : Str → Option Value} {base : Heap}
/-- a def whose code object is known -/
theorem Fun.okC {x qual : Str} {st : Stmt} {f c : Addr} {fd : FuncData} {N ps : List Str} {k : Nat} {sp : Sp} (F : Fun K x qual st f fd) (hcode : fd.code = .ref c) (S : FnScope N ps (defScope st)) (len : ∀ vs H Q E, sp vs H Q E → vs.length = ps.length)
    (hbody : ∀ (cdv : Value) (A : Around) (outer : List Env) (s : Shared) (H : Hp) (vs : List V) (Q : VK) (E : XK), cdv = .ref c → Room k (A.deeper (envOfC qual (defScope st) s.heap.objs.size f cdv)) → sp vs H Q E →
      ∃ t, PSs (cxOf CX0 P w K mg base N qual (defScope st) f cdv A outer s H E).nox (defBody st) t ∧ t { nx := fun _ H' => Q .non H', rt := Q } (start N vs) H) : FnOk P w K mg base CX0 (k + 1) f fd ps sp := by
  obtain ⟨oc, od, kV, doc, pm, an, cdv, ct, osl, rfl, lk, hcd⟩ := F.ex
  have hc : cdv = .ref c := hcode
  refine fn_of lk hcd S len fun A outer s H vs Q E hr hsp => ?_
  obtain ⟨t, h, q⟩ := hbody cdv A outer s H vs Q E hc hr hsp
  exact ⟨t, h.nox, q⟩
/-- all(..) over a walk -/
theorem all_it {J : It} {n : Nat} {G : Hp → Prop} {Y : Nat → Hp → V → Hp → Prop} (w : L2.Walk J n G Y) {te : TE} {σ : L2.St} {ix : Nat} {Q : VK} {H1 : Hp} (Pv : Nat → Hp → Prop) (h0 : Pv 0 H1) (hG : ∀ i H, i ≤ n → Pv i H → G H)
    (hs : ∀ i x H H', i < n → Pv i H → Y i H x H' → te (σ.set ix (some x)) H' fun v H3 => ∃ b, v = .bl b ∧ (b = true → Pv (i + 1) H3) ∧ (b = false → Q (.bl false) H3)) (hd : ∀ H, Pv n H → Q (.bl true) H) :
    ∃ W : Nat → Nat → Hp → Prop, (∃ m, W 0 m H1) ∧ GxA.AllW J te σ ix Q W := by
  refine ⟨fun i m H => m = n - i ∧ i ≤ n ∧ Pv i H, ⟨n, by simp, Nat.zero_le _, h0⟩, ?_⟩
  rintro i m H ⟨rfl, hi, p⟩
  have q := hG i H hi p
  by_cases hlt : i < n
  · exact .inr ⟨w.goes i H hlt q, Pv (i + 1), fun H' p' => ⟨n - (i + 1), by omega, rfl, hlt, p'⟩, fun x H' y => hs i x H H' hlt p (w.yields i H x H' hlt q y)⟩
  · have e : i = n := by omega
    subst e
    exact .inl ⟨w.stops H q, hd H p⟩
def spFWhole (K : PySem.W.Frag) : Sp := fun vs H Q _ => ∃ v b, vs = [v] ∧ WhB K H v b ∧ Q (.bl b) H
def spFFrac (K : PySem.W.Frag) : Sp := fun vs H Q _ => ∃ v b, vs = [v] ∧ FracB K H v b ∧ Q (.bl b) H
/-- is a name, by b -/
def NmB (K : PySem.W.Frag) (H : Hp) (v : V) (b : Bool) : Prop := (∃ x : Str, v = .str x ∧ x.length ≤ 1000 ∧ b = decide (NmOk x)) ∨ (((∃ i, v = .int i) ∨ v = .non ∨ ∃ p xs, v = .ref p ∧ SqT K H p xs) ∧ b = false)
def spFUnk (K : PySem.W.Frag) (T : List Addr) : Sp := fun vs H Q _ => ∃ v b, vs = [v] ∧ NmB K H v b ∧ Tabs T H ∧ ∀ H', SameT T H H' → Q (.bl b) H'
theorem scFitsU : FnScope ["thing", "letter"] ["thing"] (defScope sFitsU) := ⟨rfl, rfl, rfl, by decide +kernel, rfl, by decide +kernel, by decide +kernel⟩
theorem ok_fitsu {f c Pt : Addr} {fd : FuncData} {tL tA : Tok} {T : List Addr} (F : Fun K "fits_unknown" "fits_unknown" sFitsU f fd) (hc : fd.code = .ref c) (TB : GxR.TabB base mg c Pt) (hT : Pt ∈ T) (mi : mg "isinstance" = none) (ms : mg "str" = none) (ml : mg "len" = none) (ma : mg "all" = none)
    (gL : mg "LONGEST" = some (.int 6 tL)) (gA : mg "LETTERS" = some (.str abc tA)) : FnOk P w K mg base CX0 3 f fd ["thing"] (spFUnk K T) := by
  refine Fun.okC F hc scFitsU (fun vs H Q E h => ?_) (fun cdv A outer s H vs Q E hcd hr h => ?_)
  · obtain ⟨a, b, rfl, _⟩ := h
    rfl
  · obtain ⟨v, b, rfl, hv, ht, q⟩ := h
    refine ⟨_, pss_cons (ps_if (PW.pt (pw_or (pt_not (pt_val (pe_callB call_isi (by rfl) mi boot_isinstance (pa_cons (pv 0) (pa_cons (pe_bltn (v := .ty "str") (u := .type "str") (by rfl) ms (by decide +kernel) rfl) pa_nil)))))
        (pw_or1 (pt_not (pt_chain op_le op_le pe_int (pe_callB call_len (by rfl) ml PySem.boot_len (pa_cons (pv 0) pa_nil)) (pe_glob (v := .int 6) (by rfl) gL ⟨_, rfl⟩)))))) (pss_one (ps_ret pe_bl)) pss_nil)
      (pss_one (ps_ret (GxA.pe_allG (k := 0) (ix := 1) hr (by rfl) ma boot_all TB hcd (by show GxA.GxS ["thing", "letter"] (defScope sFitsU) _ "letter" 1; exact ⟨by rfl, by rfl, by decide +kernel, by rfl, by rfl, by decide +kernel, by decide +kernel, by rfl, by decide +kernel, by decide +kernel⟩) (pi_str (pv 0))
        (fun _ _ _ _ _ _ => pe_cmpR op_in_sign (pv 1) (pe_glob (v := .str abc) (by rfl) gA ⟨_, rfl⟩) (by rfl)) (fun _ => rfl)))), ?_⟩
    rcases hv with ⟨x, rfl, hx, rfl⟩ | ⟨hv, rfl⟩
    · have el : x.length = x.cps.toList.length := by
        rw [Array.length_toList]
        rfl
      have xs : x.length ≤ sizeLine := Nat.le_of_lt (small1000 hx)
      refine ⟨_, rfl, .str x, .ty "str", .type "str", .type "str", true, rfl, .ty _, .base (.str x), kit_ty (by decide +kernel), _, rfl, iteF ?_⟩
      have bad : ¬ NmOk x → Q (.bl false) H := fun c => by
        have z := q H (SameT.refl ht)
        rw [decide_eq_false c] at z
        exact z
      refine ⟨_, rfl, _, x.length, rfl, ⟨xs, rfl⟩, 1, (x.length : Int), rfl, rfl, _, rfl, ite2 (fun e1 => ?_) (fun e1 => ?_)⟩
      · have c1 : (1 : Int) ≤ (x.length : Int) := of_decide_eq_true e1
        refine ⟨(x.length : Int), 6, rfl, rfl, _, rfl, ?_⟩
        by_cases c2 : (x.length : Int) ≤ 6
        · rw [decide_eq_true c2]
          refine iteF ?_
          refine ⟨_, rfl, x, rfl, ht Pt hT, fun H2 t2 => ?_⟩
          have S2 := SameT.tabbed ht (ht Pt hT) t2
          refine all_it walk_str (fun i H' => H' = H2 ∧ ∀ j c, j < i → x.cps[j]? = some c → c ∈ abc.cps.toList) ⟨rfl, fun j c hj => absurd hj (Nat.not_lt_zero _)⟩ (fun _ _ _ _ => trivial) ?_ ?_
          · rintro i y H3 H4 hi ⟨rfl, w2⟩ ⟨rfl, ch, hch, rfl⟩
            refine ⟨_, rfl, ch, abc, rfl, rfl, _, rfl, fun hb => ⟨rfl, fun j c hj hc' => ?_⟩, fun hb => ?_⟩
            · by_cases cj : j < i
              · exact w2 j c cj hc'
              · have ej : j = i := by omega
                rw [ej, hch] at hc'
                rw [← Option.some.inj hc']
                exact of_decide_eq_true hb
            · have z := q _ S2
              rw [decide_eq_false fun ok => of_decide_eq_false hb ?_] at z
              · exact z
              · have hm : ch ∈ x.cps.toList := by
                  rw [← Array.getElem?_toList] at hch
                  exact List.mem_of_getElem? hch
                have hr' := ok.2.2 ch hm
                have z2 := abc_mem (ch - 97) (by omega)
                rw [show 97 + (ch - 97) = ch by omega] at z2
                exact z2
          · rintro H3 ⟨rfl, w2⟩
            have ok : NmOk x := ⟨by omega, by omega, fun ch hm => by
              obtain ⟨j, hj, e⟩ := List.getElem_of_mem hm
              refine abc_in _ (w2 j ch (by rw [Array.length_toList] at hj; exact hj) ?_)
              rw [← Array.getElem?_toList, List.getElem?_eq_getElem hj, e]⟩
            have z := q _ S2
            rw [decide_eq_true ok] at z
            exact z
        · rw [decide_eq_false c2]
          exact iteT (bad fun ok => c2 (by have := ok.2.1; omega))
      · exact ⟨false, rfl, iteT (bad fun ok => e1 (decide_eq_true (by have := ok.1; omega)))⟩
    · have hk : ∃ t, TyX K H v (.type t) ∧ PySem.W.kitOne K (.type t) (.type "str") = some false := by
        rcases hv with ⟨i, rfl⟩ | rfl | ⟨p, xs, rfl, e⟩
        · exact ⟨_, .base (.int i), kit_ty (by decide +kernel)⟩
        · exact ⟨_, .base .non, kit_ty (by decide +kernel)⟩
        · exact ⟨_, SqT.ty e, kit_ty (by decide +kernel)⟩
      obtain ⟨t, h1, h2⟩ := hk
      exact ⟨_, rfl, v, .ty "str", .type t, .type "str", false, rfl, .ty _, h1, h2, _, rfl, iteT (q H (SameT.refl ht))⟩
end
end SS

namespace SS
open PySem PySem.Spec PyProof.Rows L2
/-- an entry of a sum, by b -/
def EntB (K : PySem.W.Frag) (H : Hp) (p : Key × V) (b : Bool) : Prop :=
  (∃ x : Str, p.1 = .inr x ∧ x.length ≤ 1000 ∧ ¬ NmOk x ∧ b = false) ∨ (∃ i, p.1 = .inl i ∧ b = false) ∨
  ∃ x, p.1 = .inr x ∧ NmOk x ∧ ((FracB K H p.2 false ∧ b = false) ∨ ∃ r n d, p.2 = .ref r ∧ FrT K H r n d ∧ 0 < d ∧ Int.gcd n d = 1 ∧ b = decide (n ≠ 0))
theorem EntB.ktl {K : PySem.W.Frag} {H H' : Hp} {p : Key × V} {b : Bool} (h : EntB K H p b) (k : KTL H H') : EntB K H' p b := by
  rcases h with h | h | ⟨x, e, hx, h⟩
  · exact .inl h
  · exact .inr (.inl h)
  · refine .inr (.inr ⟨x, e, hx, ?_⟩)
    rcases h with ⟨h, e⟩ | ⟨r, n, d, e1, e2, e3⟩
    · exact .inl ⟨h.ktl k, e⟩
    · exact .inr ⟨r, n, d, e1, e2.ktl k, e3⟩
/-- is a sum, by b -/
def SumB (K : PySem.W.Frag) (H : Hp) (v : V) (b : Bool) : Prop :=
  ((v = .non ∨ (∃ i, v = .int i) ∨ (∃ x, v = .str x) ∨ (∃ p xs, v = .ref p ∧ H p = some (.lst xs)) ∨ ∃ p xs, v = .ref p ∧ SqT K H p xs) ∧ b = false) ∨
  ∃ a kvs bs, v = .ref a ∧ H a = some (.dK kvs) ∧ (kvs.map (·.1)).Nodup ∧ kvs.length ≤ 900 ∧ Paired (EntB K H) kvs bs ∧ b = bs.all id
theorem paired_get {α β : Type} {F : α → β → Prop} {l : List α} {m : List β} (h : Paired F l m) : l.length = m.length ∧ ∀ (i : Nat) (x : α), l[i]? = some x → ∃ y, m[i]? = some y ∧ F x y := by
  induction h with
  | nil => exact ⟨rfl, fun i x e => by simp at e⟩
  | cons hd tl ih =>
    refine ⟨by rw [List.length_cons, List.length_cons, ih.1], fun i x e => ?_⟩
    match i, e with
    | 0, e =>
      have z := Option.some.inj e
      subst z
      exact ⟨_, rfl, hd⟩
    | i + 1, e => exact ih.2 i x e
theorem nmlen {x : Str} (h : NmOk x) : x.length ≤ 1000 := by
  have e : x.length = x.cps.toList.length := by
    rw [Array.length_toList]
    rfl
  have := h.2.1
  omega
/-- an entry of a point, by b -/
def EntPt (K : PySem.W.Frag) (H : Hp) (p : Key × V) (b : Bool) : Prop :=
  (∃ x : Str, p.1 = .inr x ∧ x.length ≤ 1000 ∧ ¬ NmOk x ∧ b = false) ∨ (∃ i, p.1 = .inl i ∧ b = false) ∨ ∃ x, p.1 = .inr x ∧ NmOk x ∧ FracB K H p.2 b
theorem EntPt.ktl {K : PySem.W.Frag} {H H' : Hp} {p : Key × V} {b : Bool} (h : EntPt K H p b) (k : KTL H H') : EntPt K H' p b := by
  rcases h with h | h | ⟨x, e, hx, h⟩
  · exact .inl h
  · exact .inr (.inl h)
  · exact .inr (.inr ⟨x, e, hx, h.ktl k⟩)
/-- what is no dict -/
def NoDict (K : PySem.W.Frag) (H : Hp) (v : V) : Prop := v = .non ∨ (∃ i, v = .int i) ∨ (∃ x, v = .str x) ∨ (∃ p xs, v = .ref p ∧ H p = some (.lst xs)) ∨ (∃ p xs, v = .ref p ∧ SqT K H p xs) ∨ ∃ t, v = .bl t
theorem NoDict.kit {K : PySem.W.Frag} {H : Hp} {v : V} (h : NoDict K H v) : ∃ t, TyX K H v (.type t) ∧ PySem.W.kitOne K (.type t) (.type "dict") = some false := by
  rcases h with rfl | ⟨i, rfl⟩ | ⟨x, rfl⟩ | ⟨p, xs, rfl, e⟩ | ⟨p, xs, rfl, e⟩ | ⟨t, rfl⟩
  · exact ⟨_, .base .non, kit_ty (by decide +kernel)⟩
  · exact ⟨_, .base (.int i), kit_ty (by decide +kernel)⟩
  · exact ⟨_, .base (.str x), kit_ty (by decide +kernel)⟩
  · exact ⟨_, .base (.lst e), kit_ty (by decide +kernel)⟩
  · exact ⟨_, SqT.ty e, kit_ty (by decide +kernel)⟩
  · exact ⟨_, .base (.bl t), kit_ty (by decide +kernel)⟩
/-- is a point, by b -/
def PntB (K : PySem.W.Frag) (H : Hp) (v : V) (b : Bool) : Prop := (NoDict K H v ∧ b = false) ∨
  ∃ a kvs bs, v = .ref a ∧ H a = some (.dK kvs) ∧ (kvs.map (·.1)).Nodup ∧ kvs.length ≤ 900 ∧ Paired (EntPt K H) kvs bs ∧ b = bs.all id
/-- entries of a sum are entries of a point, or none -/
theorem ents_pt {K : PySem.W.Frag} {H : Hp} {kvs : List (Key × V)} {bs : List Bool} (h : Paired (EntB K H) kvs bs) : ∃ cs, Paired (EntPt K H) kvs cs ∧ (cs.all id = false → bs.all id = false) ∧
    (cs.all id = true → ∀ (i : Nat) (p : Key × V), kvs[i]? = some p → ∃ r n d, p.2 = .ref r ∧ FrT K H r n d ∧ 0 < d ∧ Int.gcd n d = 1 ∧ bs[i]? = some (decide (n ≠ 0))) := by
  induction h with
  | nil => exact ⟨[], .nil, fun z => by simp at z, fun _ i p e => by simp at e⟩
  | cons hd tl ih =>
    obtain ⟨cs, h1, h2, h3⟩ := ih
    have bad : ∀ {b : Bool}, b = false → ∀ bs : List Bool, (b :: bs).all id = false := fun e bs => by rw [e]; rfl
    have ff : ∀ {ccs : List Bool}, ¬ ((false :: ccs).all id = true) := fun z => by simp at z
    rcases hd with ⟨x, e, hx, nx, rfl⟩ | ⟨j, e, rfl⟩ | ⟨x, e, hx, ⟨fb, rfl⟩ | ⟨r, n, d, e2, fr, hd, hg, rfl⟩⟩
    · exact ⟨false :: cs, .cons (.inl ⟨x, e, hx, nx, rfl⟩) h1, fun _ => rfl, fun z => absurd z ff⟩
    · exact ⟨false :: cs, .cons (.inr (.inl ⟨j, e, rfl⟩)) h1, fun _ => rfl, fun z => absurd z ff⟩
    · exact ⟨false :: cs, .cons (.inr (.inr ⟨x, e, hx, fb⟩)) h1, fun _ => rfl, fun z => absurd z ff⟩
    · refine ⟨true :: cs, .cons (.inr (.inr ⟨x, e, hx, by rw [e2]; exact FracB.fr fr hd hg⟩)) h1, fun z => ?_, fun z i p hp => ?_⟩
      · rw [List.all_cons, h2 (by rw [List.all_cons] at z; exact z), Bool.and_false]
      · match i, hp with
        | 0, hp =>
          have e3 := Option.some.inj hp
          subst e3
          exact ⟨r, n, d, e2, fr, hd, hg, rfl⟩
        | i + 1, hp => exact h3 (by rw [List.all_cons] at z; exact z) i p hp
theorem ne_nought {n d : Int} (hgc : Int.gcd n d = 1) (hd : 0 < d) : (!(n == 0 && d == 1)) = decide (n ≠ 0) := by
  by_cases c0 : n = 0
  · have d1 : d = 1 := by
      rw [c0] at hgc
      have q1 : Int.gcd 0 d = d.natAbs := Int.gcd_zero_left ..
      omega
    rw [c0, d1]
    rfl
  · rw [decide_eq_true c0, beq_eq_false_iff_ne.mpr c0]
    rfl
section
variable {P : Program} {w : World} {K : PySem.W.Frag} {mg : Str → Option Value} {base : Heap}
def spFPt (K : PySem.W.Frag) (T : List Addr) : Sp := fun vs H Q _ => ∃ v b, vs = [v] ∧ PntB K H v b ∧ Tabs T H ∧ ∀ H', SameT T H H' → Q (.bl b) H'
def spFSum (K : PySem.W.Frag) (T : List Addr) : Sp := fun vs H Q _ => ∃ v b, vs = [v] ∧ SumB K H v b ∧ Tabs T H ∧ ∀ H', SameT T H H' → Q (.bl b) H'
/-- a sort, by b: a text or another plain thing -/
def SortB (v : V) (b : Bool) : Prop := flatV v = true ∧ b = inV v (sorts.map V.str)
/-- row_of of anything: C is NoRow -/
def spRow (K : PySem.W.Frag) (T : List Addr) (C : Addr) : Sp := fun vs H Q E => ∃ v1 v2 v3 b1 b2 b3, vs = [v1, v2, v3] ∧ Tabs T H ∧ SumB K H v1 b1 ∧ SortB v2 b2 ∧ FracB K H v3 b3 ∧
  ((b1 && b2 && b3) = false → ∀ H', SameT T H H' → E (.ref C) none H') ∧
  ((b1 && b2 && b3) = true → ∃ a kvs, v1 = .ref a ∧ H a = some (.dK kvs) ∧ ∀ H1, SameT T H H1 → ∀ c, H1 c = none → ∀ r, (upd H1 c (.dK kvs)) r = none → Q (.ref r) (upd (upd H1 c (.dK kvs)) r (.tup [.ref c, v2, v3])))
/-- is a row: a tuple of three by b -/
def spFRow (K : PySem.W.Frag) (T : List Addr) : Sp := fun vs H Q _ => ∃ u v1 v2 v3 b1 b2 b3, vs = [.ref u] ∧ H u = some (.tup [v1, v2, v3]) ∧ Tabs T H ∧ SumB K H v1 b1 ∧ SortB v2 b2 ∧ FracB K H v3 b3 ∧ ∀ H', SameT T H H' → Q (.bl (b1 && b2 && b3)) H'
theorem SumB.ktl {K : PySem.W.Frag} {H H' : Hp} {v : V} {b : Bool} (h : SumB K H v b) (k : KTL H H') (s : ∀ x o, H x = some o → H' x = some o) : SumB K H' v b := by
  rcases h with ⟨h, e⟩ | ⟨a, kvs, bs, e, ha, nd, kl, hp, e2⟩
  · refine .inl ⟨?_, e⟩
    rcases h with h | h | h | ⟨p, xs, e, h⟩ | ⟨p, xs, e, h⟩
    · exact .inl h
    · exact .inr (.inl h)
    · exact .inr (.inr (.inl h))
    · exact .inr (.inr (.inr (.inl ⟨p, xs, e, s _ _ h⟩)))
    · exact .inr (.inr (.inr (.inr ⟨p, xs, e, SqT.ktl h k⟩)))
  · refine .inr ⟨a, kvs, bs, e, s _ _ ha, nd, kl, ?_, e2⟩
    clear e2 ha nd kl e
    induction hp with
    | nil => exact .nil
    | cons hd tl ih => exact .cons (hd.ktl k) ih
end
end SS

namespace SS
open PySem PySem.Spec PyProof.Rows L2
section
variable {T : List Addr} {H H1 H' : Hp}
theorem Tabs.but2 {st c D : Addr} (h : Tabs T H) (y : StA st c H) (nD : H D = none) (w3 : ∀ x o, x ≠ st → x ≠ D → H x = some o → H' x = some o) : Tabs T H' := fun P hP => by
  obtain ⟨ps, e, r⟩ := h P hP
  refine ⟨ps, w3 _ _ (fun z => ?_) (ne_of_none e nD) e, r⟩
  obtain ⟨i, n, f, xs, h1, _⟩ := y
  rw [z, h1] at e
  cases e
theorem SameT.growX {p : Addr} {o u : HO} (s : SameT T H H1) (n : H p = none) (h : H1 p = some u) (nu : ∀ ps, u ≠ .tbl ps) : SameT T H (upd H1 p o) := by
  refine ⟨fun b x e nx => ?_, s.tab.upd h nu, fun {b} e => ?_⟩
  · rw [upd_ne (ne_of_none e n)]
    exact s.ext b x e nx
  · by_cases c : b = p
    · rw [c]
      exact n
    · rw [upd_ne c] at e
      exact s.free e
theorem paired_true {α : Type} {F : α → Bool → Prop} : ∀ {l : List α}, (∀ x ∈ l, F x true) → Paired F l (l.map fun _ => true)
  | [], _ => .nil
  | x :: l, h => .cons (h x (.head _)) (paired_true fun y hy => h y (.tail _ hy))
theorem DM.sumB {K : PySem.W.Frag} {m B : Nat} {a : Addr} {kvs : List (Key × V)} {f : Key → Int × Int} (h : DM True m H a kvs f) (ok : ∀ k, Okb B (f k)) (hm : m ≤ 900) : SumB K H (.ref a) true := by
  refine .inr ⟨a, kvs, kvs.map fun _ => true, rfl, h.1, h.2.1, Nat.le_trans h.2.2.1 hm, paired_true fun p hp => ?_, (List.all_eq_true.mpr fun x hx => ?_).symm⟩
  · obtain ⟨⟨x, e1, hx⟩, ⟨r, e2, e3⟩, nz⟩ := h.2.2.2.1 p hp
    exact .inr (.inr ⟨x, e1, hx, .inr ⟨r, _, _, e2, FrT.of e3, (ok _).1, (ok _).2.2.2, (decide_eq_true (nz trivial)).symm⟩⟩)
  · obtain ⟨_, _, e⟩ := List.mem_map.mp hx
    rw [← e]
    rfl
end
theorem sort_in : ∀ s ∈ sorts, inV (.str s) (sorts.map V.str) = true := by decide +kernel
end SS

namespace SS
open PySem PySem.Spec PyProof.Rows L2
/-! ### rows: a tuple of a sum, a sort and a bound -/
def RowT (K : PySem.W.Frag) (m : Nat) (H : Hp) (r a : Addr) (kvs : List (Key × V)) (f : Key → Int × Int) (srt : Str) (num : Int × Int) : Prop :=
  ∃ n, H r = some (.tup [.ref a, .str srt, .ref n]) ∧ DM True m H a kvs f ∧ FrT K H n num.1 num.2 ∧ srt ∈ sorts
section
variable {K : PySem.W.Frag} {m m' : Nat} {H H' : Hp} {r r' a a' : Addr} {kvs ls : List (Key × V)} {f : Key → Int × Int} {srt : Str} {num : Int × Int} {T : List Addr}
theorem RowT.same (h : RowT K m H r a kvs f srt num) (s : Same H H') : RowT K m H' r a kvs f srt num := by
  obtain ⟨n, h1, h2, h3, h4⟩ := h
  exact ⟨n, s _ _ h1, h2.same s, h3.new s, h4⟩
theorem RowT.sameT (h : RowT K m H r a kvs f srt num) (s : SameT T H H') : RowT K m H' r a kvs f srt num := by
  obtain ⟨n, h1, h2, h3, h4⟩ := h
  exact ⟨n, s.ext _ _ h1 (fun ps z => by cases z), h2.sameT s, h3.ktl s.ktl, h4⟩
theorem KTL.but {st c : Addr} (b : But st H H') (y : StA st c H) (xs0 : ∀ b' xs, H b' = some (.lst xs) → b' ≠ st → H' b' = some (.lst xs)) : True := trivial
theorem FrT.but {st c p : Addr} {n d : Int} (h : FrT K H p n d) (b : But st H H') (y : StA st c H) : FrT K H' p n d := by
  obtain ⟨h1, h2⟩ := h
  have ne : ∀ o, H p = some o → (∀ xs, o ≠ .lst xs) → p ≠ st := fun o e no z => by
    obtain ⟨i, n, ff, xs, g1, _⟩ := y
    rw [z, g1] at e
    exact no _ (Option.some.inj e).symm
  rcases h1 with (h1 | ⟨o, h1⟩) | ⟨o, its, mm, k1, k2, k3⟩
  · exact FrT.of (b.tup y h1)
  · have e := b _ _ (ne _ h1 fun xs z => by cases z) h1
    exact ⟨.inl (.inr ⟨o, e⟩), .fTuple e⟩
  · exact ⟨.inr ⟨o, its, mm, k1, k2, k3⟩, .kTuple k1 k2⟩
theorem RowT.but {st c : Addr} (h : RowT K m H r a kvs f srt num) (b : But st H H') (y : StA st c H) : RowT K m H' r a kvs f srt num := by
  obtain ⟨n, h1, h2, h3, h4⟩ := h
  exact ⟨n, b.tup y h1, h2.but b y, h3.but b y, h4⟩
theorem RowT.mono (h : RowT K m H r a kvs f srt num) (l : m ≤ m') : RowT K m' H r a kvs f srt num := by
  obtain ⟨n, h1, h2, h3⟩ := h
  exact ⟨n, h1, h2.mono l, h3⟩
/-- another dict changes -/
theorem RowT.upd {b : Addr} {ks : List (Key × V)} {o : HO} (h : RowT K m H r a kvs f srt num) (hb : H b = some (.dK ks)) (n : a ≠ b) : RowT K m (upd H b o) r a kvs f srt num := by
  obtain ⟨n', h1, h2, h3, h4⟩ := h
  exact ⟨n', keep_d hb _ _ h1, h2.upd hb n, h3.ktl (KTL.dict hb), h4⟩
/-! ### equal things -/
theorem xv_int (k : Nat) (i : Int) : XV K H (k + 1) (.int i) (.int i) := .inl ⟨rfl, rfl⟩
theorem xv_str (k : Nat) (x : Str) : XV K H (k + 1) (.str x) (.str x) := .inl ⟨rfl, rfl⟩
theorem xv_fr {p q : Addr} {n d : Int} (k : Nat) (h : FrT K H p n d) (h' : FrT K H q n d) : XV K H (k + 2) (.ref p) (.ref q) :=
  .inr (.inr (.inr ⟨p, q, _, _, rfl, rfl, h.1, h'.1, .cons (xv_int k _) (.cons (xv_int k _) .nil)⟩))
theorem xv_dm (k : Nat) (h : DM True m H a kvs f) (h' : DM True m' H a' ls f) : XV K H (k + 3) (.ref a) (.ref a') := by
  obtain ⟨x, y, kx, ky, e1, e2, hx, hy, hl, hp⟩ := deq_of h h'
  cases e1
  cases e2
  refine .inr (.inr (.inl (.inr ⟨a, a', kx, ky, rfl, rfl, hx, hy, hl, fun p hpm => ?_⟩)))
  obtain ⟨u, eu, p1, p2, n, d, e3, e4, g1, g2⟩ := hp p hpm
  refine ⟨u, eu, ?_⟩
  rw [e3, e4]
  exact xv_fr k (FrT.of g1) (FrT.of g2)
theorem xr_row (k : Nat) (h : RowT K m H r a kvs f srt num) (h' : RowT K m' H r' a' ls f srt num) : XR K H (XV K H (k + 3)) (.ref r) (.ref r') := by
  obtain ⟨n, h1, h2, h3, _⟩ := h
  obtain ⟨n', g1, g2, g3, _⟩ := h'
  exact .inr ⟨r, r', _, _, rfl, rfl, SqT.of h1, SqT.of g1, .cons (xv_dm k h2 g2) (.cons (xv_str _ _) (.cons (xv_fr (k + 1) h3 g3) .nil))⟩
theorem ne_row (k : Nat) (hk : k ≤ 40) {Q : VK} (h : RowT K m H r a kvs f srt num) (h' : RowT K m' H r' a' ls f srt num) (q : Q (.bl false) H) : rNeXT K (.ref r) (.ref r') H Q := by
  obtain ⟨n, h1, h2, h3, _⟩ := h
  obtain ⟨n', g1, g2, g3, _⟩ := h'
  exact ⟨k + 3, r, r', _, _, by omega, rfl, rfl, SqT.of h1, SqT.of g1, .cons (xv_dm k h2 g2) (.cons (xv_str _ _) (.cons (xv_fr (k + 1) h3 g3) .nil)), q⟩
end
theorem sorts_flat : (sorts.map V.str).all flatV = true := flat_strs sorts
section
variable {P : Program} {w : World} {K : PySem.W.Frag} {mg : Str → Option Value} {base : Heap}
def spIsRow (K : PySem.W.Frag) : Sp := fun vs H Q _ => ∃ (r a : Addr) (kvs : List (Key × V)) (f : Key → Int × Int) (srt : Str) (num : Int × Int) (m B : Nat), vs = [.ref r] ∧ RowT K m H r a kvs f srt num ∧ m ≤ 900 ∧ (∀ k, Okb B (f k)) ∧ Okb B num ∧ ∀ H', Same H H' → Q (.bl true) H'
def spFar : Sp := fun vs H Q _ => ∃ st c : Addr, vs = [.ref st] ∧ StA st c H ∧ ∀ H' p (num : Int × Int), But st H H' → StA st c H' → H' p = some (.tup [.int num.1, .int num.2]) → Okb 100 num → num.1 ≠ 0 → Q (.ref p) H'
def spRowLike (K : PySem.W.Frag) : Sp := fun vs H Q _ => ∃ (r a r' a' : Addr) (kvs ls : List (Key × V)) (f : Key → Int × Int) (srt : Str) (num : Int × Int) (m m' B : Nat), vs = [.ref r, .ref r'] ∧ RowT K m H r a kvs f srt num ∧ RowT K m' H r' a' ls f srt num ∧ m ≤ 900 ∧ (∀ k, Okb B (f k)) ∧ Okb B num ∧ ∀ H', Same H H' → Q (.bl true) H'
end
end SS

namespace SS
open PySem PySem.Spec PyProof.Rows L2
/-! ### texts that rise -/
theorem nlt_trans : ∀ (a b c : List Nat), ltCps b a = false → ltCps c b = false → ltCps c a = false
  | [], _, [], _, _ => rfl
  | [], [], _ :: _, _, _ => rfl
  | [], _ :: _, _ :: _, _, _ => rfl
  | a :: as, [], c, h, _ => by simp [ltCps] at h
  | a :: as, b :: bs, [], _, h => by simp [ltCps] at h
  | a :: as, b :: bs, c :: cs, h1, h2 => by
    have ih := nlt_trans as bs cs
    simp only [ltCps, Bool.or_eq_false_iff, decide_eq_false_iff_not, Bool.and_eq_false_imp, beq_iff_eq] at h1 h2 ⊢
    refine ⟨by omega, fun e => ?_⟩
    have e1 : b = a := by omega
    have e2 : c = b := by omega
    exact ih (h1.2 e1) (h2.2 e2)
theorem nlt_antisymm : ∀ (a b : List Nat), ltCps b a = false → ltCps a b = false → a = b
  | [], [], _, _ => rfl
  | [], b :: bs, _, h => by simp [ltCps] at h
  | a :: as, [], h, _ => by simp [ltCps] at h
  | a :: as, b :: bs, h1, h2 => by
    have ih := nlt_antisymm as bs
    simp only [ltCps, Bool.or_eq_false_iff, decide_eq_false_iff_not, Bool.and_eq_false_imp, beq_iff_eq] at h1 h2
    have e : a = b := by omega
    rw [e, ih (h1.2 e.symm) (h2.2 e)]
def leT (a b : Str) : Prop := ltCps b.cps.toList a.cps.toList = false
theorem leT_antisymm {a b : Str} (h1 : leT a b) (h2 : leT b a) : a = b := by
  have e := nlt_antisymm _ _ h1 h2
  cases a
  cases b
  congr 1
  exact Array.toList_inj.mp e
theorem rising_pw : ∀ (l : List Str) (p : Str), risingS p l = true → (p :: l).Pairwise leT
  | [], p, _ => List.pairwise_singleton leT p
  | x :: r, p, h => by
    have h' : (!ltCps x.cps.toList p.cps.toList) = true ∧ risingS x r = true := Bool.and_eq_true_iff.mp h
    have i := rising_pw r x h'.2
    have px : leT p x := by
      have z := h'.1
      unfold leT
      cases c : ltCps x.cps.toList p.cps.toList with
      | false => rfl
      | true =>
        rw [c] at z
        cases z
    refine List.pairwise_cons.mpr ⟨fun y hy => ?_, i⟩
    rcases List.mem_cons.mp hy with e | e
    · rw [e]
      exact px
    · exact nlt_trans _ _ _ px ((List.pairwise_cons.mp i).1 y e)
theorem sorted_pw {l : List Str} (h : sortedS l = true) : l.Pairwise leT := by
  cases l with
  | nil => exact List.Pairwise.nil
  | cons x r => exact rising_pw r x h
theorem sorted_uniq {l m : List Str} (h1 : sortedS l = true) (h2 : sortedS m = true) (p : l.Perm m) : l = m :=
  List.Perm.eq_of_pairwise (le := leT) (fun _ _ _ _ => leT_antisymm) (sorted_pw h1) (sorted_pw h2) p
/-! ### keys of a dict of texts -/
theorem keys_nm {z : Prop} {m : Nat} {H : Hp} {a : Addr} {kvs : List (Key × V)} {f : Key → Int × Int} (h : DM z m H a kvs f) : kvs.map (·.1) = (kvs.map fun p => nmOf p.1).map Sum.inr := by
  rw [List.map_map]
  refine List.map_congr_left fun p hp => ?_
  obtain ⟨⟨x, e, _⟩, _⟩ := h.2.2.2.1 p hp
  show p.1 = Sum.inr (nmOf p.1)
  rw [e]
  rfl
/-- the text of a fraction, of an entry -/
def ftx (n d : Int) : Str := if d = 1 then (toString n : String) else Str.empty ++ (toString n : String) ++ "/" ++ (toString d : String)
def etx (f : Key → Int × Int) (x : Str) : Str := x ++ " = " ++ ftx (f (.inr x)).1 (f (.inr x)).2
theorem empty_app (x : Str) : Str.empty ++ x = x := by
  show Str.append Str.empty x = x
  unfold Str.append Str.empty
  cases x
  simp
end SS

namespace SS
open PySem PySem.Spec PyProof.Rows L2
theorem log_of {n : Int} (h : n.natAbs < 2 ^ 1900) : n.natAbs.log2 < 1920 := Nat.lt_of_lt_of_le (PySem.Flt.log2_lt_of (k := 1900) (by decide) h) (by decide)
theorem len_app (a b : Str) : (a ++ b).length = a.length + b.length := by
  show (Str.append a b).length = _
  unfold Str.append Str.length
  simp
theorem itx_len {n : Int} (h : n.natAbs < 2 ^ 1900) : (((toString n : String)) : Str).length ≤ 1921 := int_text_len_1921 (log_of h)
theorem ftx_len {e : Int × Int} (h : Okb 1900 e) : (ftx e.1 e.2).length ≤ 4000 := by
  unfold ftx
  have a := itx_len h.2.1
  have b := itx_len h.2.2.1
  have c : (("/" : Str)).length = 1 := by decide
  have d : (Str.empty).length = 0 := by decide
  split
  · omega
  · rw [len_app, len_app, len_app]
    omega
theorem nm_len {x : Str} (h : NmOk x) : x.length ≤ 6 := by
  have e : x.length = x.cps.toList.length := by
    rw [Array.length_toList]
    rfl
  have := h.2.1
  omega
theorem etx_len {f : Key → Int × Int} {x : Str} (h : NmOk x) (hf : Okb 1900 (f (.inr x))) : (etx f x).length ≤ 4100 := by
  unfold etx
  have a := nm_len h
  have b := ftx_len hf
  have c : ((" = " : Str)).length = 3 := by decide
  rw [len_app, len_app]
  omega
theorem sz5 {n : Nat} (h : n ≤ 100000) : n ≤ sizeLine := Nat.le_trans h (by decide)
/-- the entries listed -/
def ltx (f : Key → Int × Int) (ys : List Str) : Str := if ys = [] then "nothing" else Txt.join ", " (ys.map (etx f))
theorem sum_le {α : Type} (g : α → Nat) (c : Nat) : ∀ (l : List α), (∀ x ∈ l, g x ≤ c) → (l.map g).sum ≤ l.length * c
  | [], _ => by simp
  | x :: l, h => by
    have i := sum_le g c l fun y hy => h y (List.mem_cons_of_mem _ hy)
    have j := h x List.mem_cons_self
    rw [List.map_cons, List.sum_cons, List.length_cons, Nat.succ_mul]
    omega
section
variable {P : Program} {w : World} {K : PySem.W.Frag} {mg : Str → Option Value} {base : Heap}
def spFtx (K : PySem.W.Frag) : Sp := fun vs H Q _ => ∃ (p : Addr) (e : Int × Int), vs = [.ref p] ∧ FrT K H p e.1 e.2 ∧ Okb 1900 e ∧ Q (.str (ftx e.1 e.2)) H
theorem scFtx : FnScope ["number", "top", "bottom"] ["number"] (defScope sFtx) := ⟨rfl, rfl, rfl, by decide +kernel, rfl, by decide +kernel, by decide +kernel⟩
theorem ok_ftx {f : Addr} {fd : FuncData} {k : Nat} (F : Fun K "fraction_text" "fraction_text" sFtx f fd) (ms : mg "str" = none) : FnOk P w K mg base CX0 (k + 1) f fd ["number"] (spFtx K) := by
  refine F.ok scFtx (fun vs H Q E h => ?_) (fun cdv A outer s H vs Q E hr h => ?_)
  · obtain ⟨_, _, rfl, _⟩ := h
    rfl
  · obtain ⟨p, e, rfl, hp, ok, q⟩ := h
    refine ⟨_, pss_cons (ps_asg (pv 0) (pg_tup rfl (pgs_cons (pg_name (i := 1) scFtx.nd rfl (.inl rfl)) (pgs_cons (pg_name (i := 2) scFtx.nd rfl (.inl rfl)) pgs_nil))))
      (pss_one (ps_ret (pe_ifExp (pt_cmpR op_eq (pv 2) pe_int (nomark _)) (pe_callTy call_str_int (by rfl) ms (by decide +kernel) (pa_cons (pv 1) pa_nil))
        (pe_joined (.cons (pe_fmt (pv 1)) (.cons pe_str (.cons (pe_fmt (pv 2)) .nil))))))), ?_⟩
    refine ⟨_, rfl, p, _, rfl, hp.1, rfl, _, _, rfl, _, _, rfl, rfl, ?_⟩
    refine ⟨_, rfl, rfl, _, rfl, ite2 (fun c => ?_) (fun c => ?_)⟩
    · have d1 : e.2 = 1 := V.int.inj (of_decide_eq_true c)
      unfold ftx at q
      rw [if_pos d1] at q
      exact ⟨_, rfl, e.1, rfl, log_of ok.2.1, q⟩
    · have d1 : ¬ e.2 = 1 := fun z => c (by rw [z]; exact decide_eq_true rfl)
      unfold ftx at q
      rw [if_neg d1] at q
      have a := itx_len ok.2.1
      have b := itx_len ok.2.2.1
      have c1 : (("/" : Str)).length = 1 := by decide
      have c2 : (Str.empty).length = 0 := by decide
      refine ⟨_, rfl, .inr ⟨e.1, rfl, log_of ok.2.1, _, rfl, ?_, _, rfl, ?_, _, rfl, .inr ⟨e.2, rfl, log_of ok.2.2.1, _, rfl, ?_, q⟩⟩⟩
      · rw [len_app]
        exact sz5 (by omega)
      · rw [len_app, len_app]
        exact sz5 (by omega)
      · rw [len_app, len_app, len_app]
        exact sz5 (by omega)
theorem scLFtx : FnScope ["_law_number_here"] ["_law_number_here"] (defScope sLFtx) := ⟨rfl, rfl, rfl, by decide +kernel, rfl, by decide +kernel, by decide +kernel⟩
theorem ok_lftx {f : Addr} {fd : FuncData} {k : Nat} (F : Fun K "_law_fraction_text" "_law_fraction_text" sLFtx f fd) (ms : mg "str" = none) : FnOk P w K mg base CX0 (k + 1) f fd ["_law_number_here"] (spFtx K) := by
  refine F.ok scLFtx (fun vs H Q E h => ?_) (fun cdv A outer s H vs Q E hr h => ?_)
  · obtain ⟨_, _, rfl, _⟩ := h
    rfl
  · obtain ⟨p, e, rfl, hp, ok, q⟩ := h
    refine ⟨_, pss_cons (ps_if (pt_cmpR op_eq (pe_ix ix_tup (pv 0) pe_int (fun _ _ => rfl)) pe_int (nomark _)) (pss_one (ps_ret (pe_callTy call_str_int (by rfl) ms (by decide +kernel) (pa_cons (pe_ix ix_tup (pv 0) pe_int (fun _ _ => rfl)) pa_nil)))) pss_nil)
      (pss_one (ps_ret (pe_joined (.cons (pe_fmt (pe_ix ix_tup (pv 0) pe_int (fun _ _ => rfl))) (.cons pe_str (.cons (pe_fmt (pe_ix ix_tup (pv 0) pe_int (fun _ _ => rfl))) .nil)))))), ?_⟩
    refine ⟨_, rfl, p, _, 1, _, rfl, rfl, hp.1, atI_nat (j := 1) rfl, rfl, _, rfl, ite2 (fun c => ?_) (fun c => ?_)⟩
    · have d1 : e.2 = 1 := V.int.inj (of_decide_eq_true c)
      unfold ftx at q
      rw [if_pos d1] at q
      exact ⟨_, rfl, p, _, 0, _, rfl, rfl, hp.1, atI_nat (j := 0) rfl, e.1, rfl, log_of ok.2.1, q⟩
    · have d1 : ¬ e.2 = 1 := fun z => c (by rw [z]; exact decide_eq_true rfl)
      unfold ftx at q
      rw [if_neg d1] at q
      have a := itx_len ok.2.1
      have b := itx_len ok.2.2.1
      have c1 : (("/" : Str)).length = 1 := by decide
      have c2 : (Str.empty).length = 0 := by decide
      refine ⟨_, rfl, p, _, 0, _, rfl, rfl, hp.1, atI_nat (j := 0) rfl, .inr ⟨e.1, rfl, log_of ok.2.1, _, rfl, ?_, _, rfl, ?_, _, rfl, p, _, 1, _, rfl, rfl, hp.1, atI_nat (j := 1) rfl, .inr ⟨e.2, rfl, log_of ok.2.2.1, _, rfl, ?_, q⟩⟩⟩
      · rw [len_app]
        exact sz5 (by omega)
      · rw [len_app, len_app]
        exact sz5 (by omega)
      · rw [len_app, len_app, len_app]
        exact sz5 (by omega)
end
end SS


namespace SS
open PySem PySem.Spec PyProof.Rows L2 TL NumText
/-! ### sums as texts -/
theorem bare_of {l : List Nat} (h : l.head? ≠ some 45) : bare l = l ∧ ngB l = false := by
  have e : ngB l = false := decide_eq_false h
  unfold bare
  rw [e]
  exact ⟨rfl, rfl⟩
theorem bare_neg (l : List Nat) : bare (45 :: l) = l ∧ ngB (45 :: l) = true := ⟨rfl, rfl⟩
theorem numL_head (n : Nat) : ∃ c r, numL n = c :: r ∧ 48 ≤ c ∧ c ≤ 57 := by
  obtain ⟨c, r, e⟩ := List.exists_cons_of_ne_nil (numL_ne n)
  have z := numL_digits n c (by rw [e]; exact List.mem_cons_self)
  exact ⟨c, r, e, z.1, z.2⟩
theorem numL_wok {n : Nat} (h : n < 10 ^ 30) : wokB (numL n) = true :=
  wokB_iff.mpr ⟨List.length_pos_iff.mpr (numL_ne n), numL_len (by decide) h, numL_digits n⟩
theorem zL_nat (n : Nat) : zL (n : Int) = numL n := by
  unfold zL
  rw [if_neg (by omega), Int.natAbs_natCast]
/-- a number with its sign -/
theorem zL_sg (n : Int) : zL n = lead (decide (n < 0)) (numL n.natAbs) ∧ n = sg (decide (n < 0)) n.natAbs := by
  unfold zL lead sg
  by_cases c : n < 0
  · rw [if_pos c, decide_eq_true c, if_pos rfl, if_pos rfl]
    exact ⟨rfl, by omega⟩
  · rw [if_neg c, decide_eq_false c]
    exact ⟨rfl, by show n = (n.natAbs : Int); omega⟩
/-- what is written is read -/
theorem rd_fL {N : Int × Int} (hd : 0 < N.2) (hg : Int.gcd N.1 N.2 = 1) (h1 : N.1.natAbs < 10 ^ 30) (h2 : N.2.natAbs < 10 ^ 30) : rd (fL N) = some N := by
  obtain ⟨n, d⟩ := N
  obtain ⟨d, rfl⟩ : ∃ k : Nat, d = (k : Int) := ⟨d.toNat, by simp only at hd; omega⟩
  have hd : 0 < (d : Int) := hd
  have h1 : n.natAbs < 10 ^ 30 := h1
  have h2 : d < 10 ^ 30 := h2
  have hg : Nat.gcd n.natAbs d = 1 := hg
  obtain ⟨z1, z2⟩ := zL_sg n
  obtain ⟨c, r, e, c1, c2⟩ := numL_head n.natAbs
  have key : ∀ t : List Nat, ngB (zL n ++ t) = decide (n < 0) ∧ bare (zL n ++ t) = numL n.natAbs ++ t := fun t => by
    rw [z1]
    cases decide (n < 0) with
    | true => exact ⟨(bare_neg (numL n.natAbs ++ t)).2, (bare_neg (numL n.natAbs ++ t)).1⟩
    | false =>
      show ngB (numL n.natAbs ++ t) = false ∧ bare (numL n.natAbs ++ t) = _
      have b := bare_of (l := numL n.natAbs ++ t) (by rw [e]; show some c ≠ some 45; intro z; have := Option.some.inj z; omega)
      exact ⟨b.2, b.1⟩
  have wn := numL_wok h1
  by_cases c1' : (d : Int) = 1
  · have ef : fL (n, (d : Int)) = zL n := if_pos c1'
    have k := key []
    rw [List.append_nil, List.append_nil] at k
    rw [ef]
    have r1 := rd_one (l := zL n) (by rw [k.2]; exact numL_free (.inl (by decide))) (by rw [k.2]; exact wn)
    rw [k.1, k.2, numL_val, ← z2] at r1
    rw [r1.1 rfl, c1']
  · have ef : fL (n, (d : Int)) = zL n ++ 47 :: zL (d : Int) := if_neg c1'
    have k := key (47 :: zL (d : Int))
    have wd := numL_wok h2
    have ez := zL_nat d
    rw [ef]
    have r2 := rd_two (l := zL n ++ 47 :: zL (d : Int)) (a := numL n.natAbs) (b := numL d) (p := n.natAbs) (q := d) (by rw [k.2, ez]) wn wd (by rw [numL_val]; omega) (by rw [numL_val, numL_val, hg, Nat.mul_one]) (by rw [numL_val, numL_val, hg, Nat.mul_one])
    rw [k.1, ← z2] at r2
    exact r2.1 ef
/-! the texts of terms and sums -/
def szN (N : Int × Int) : Int × Int := ((N.1.natAbs : Int), N.2)
open Classical in
noncomputable def trmL (x : Str) (N : Int × Int) : List Nat := if szN N = (1, 1) then tl x else fL (szN N) ++ 32 :: tl x
def sgC (N : Int × Int) : Nat := if N.1 < 0 then 45 else 43
noncomputable def restL (f : Key → Int × Int) (ys : List Str) : List Nat := ys.flatMap fun y => 32 :: sgC (f (.inr y)) :: 32 :: trmL y (f (.inr y))
noncomputable def headL (f : Key → Int × Int) (y : Str) : List Nat := (if (f (.inr y)).1 < 0 then [45] else []) ++ trmL y (f (.inr y))
noncomputable def sumL (f : Key → Int × Int) : List Str → List Nat
  | [] => [48]
  | y :: r => headL f y ++ restL f r
theorem sumL_snoc {f : Key → Int × Int} {ys : List Str} (h : ys ≠ []) (y : Str) : sumL f (ys ++ [y]) = sumL f ys ++ (32 :: sgC (f (.inr y)) :: 32 :: trmL y (f (.inr y))) := by
  cases ys with
  | nil => exact absurd rfl h
  | cons a r =>
    show headL f a ++ restL f (r ++ [y]) = headL f a ++ restL f r ++ _
    unfold restL
    rw [List.flatMap_append, List.append_assoc]
    simp
/-- pieces with blanks between -/
theorem join_pieces (p : List Nat) (ps : List (List Nat)) : joinL [32] (p :: ps) = p ++ ps.flatMap (fun q => 32 :: q) := by
  induction ps generalizing p with
  | nil =>
    show p = p ++ []
    rw [List.append_nil]
  | cons q r ih =>
    show p ++ ([32] ++ joinL [32] (q :: r)) = _
    rw [ih q, List.flatMap_cons]
    simp
/-! the words of a sum with a sign of its own ahead -/
open Classical in
noncomputable def wds (x : Str) (N : Int × Int) : List (List Nat) := [sgC N] :: ((if szN N = (1, 1) then [] else [fL (szN N)]) ++ [tl x])
noncomputable def allW (f : Key → Int × Int) (ys : List Str) : List (List Nat) := ys.flatMap fun y => wds y (f (.inr y))
theorem wds_text (x : Str) (N : Int × Int) : ∃ r, wds x N = [sgC N] :: r ∧ r ≠ [] ∧ r.flatMap (fun q => 32 :: q) = 32 :: trmL x N := by
  unfold wds trmL
  by_cases c : szN N = (1, 1)
  · rw [if_pos c, if_pos c]
    exact ⟨_, rfl, by simp, by simp⟩
  · rw [if_neg c, if_neg c]
    exact ⟨_, rfl, by simp, by simp⟩
theorem allW_rest (f : Key → Int × Int) (ys : List Str) : (allW f ys).flatMap (fun q => 32 :: q) = restL f ys := by
  unfold allW restL
  induction ys with
  | nil => rfl
  | cons y r ih =>
    obtain ⟨t, e1, e2, e3⟩ := wds_text y (f (.inr y))
    rw [List.flatMap_cons, List.flatMap_cons, List.flatMap_append, ih, e1, List.flatMap_cons, e3]
    simp
theorem allW_text (f : Key → Int × Int) (y : Str) (r : List Str) : joinL [32] (allW f (y :: r)) = sgC (f (.inr y)) :: 32 :: (trmL y (f (.inr y)) ++ restL f r) := by
  obtain ⟨t, e1, e2, e3⟩ := wds_text y (f (.inr y))
  have e : allW f (y :: r) = [sgC (f (.inr y))] :: (t ++ allW f r) := by
    unfold allW
    rw [List.flatMap_cons, e1]
    rfl
  rw [e, join_pieces, List.flatMap_append, e3, allW_rest]
  simp
theorem nm_no {x : Str} (h : NmOk x) {c : Nat} (hc : c < 97) : c ∉ tl x := fun m => by
  have z := h.2.2 c m
  omega
theorem zL_no32 (n : Int) : 32 ∉ zL n := by
  unfold zL
  split
  · intro z
    rcases List.mem_cons.mp z with z | z
    · exact absurd z (by decide)
    · exact numL_free (.inl (by decide)) z
  · exact numL_free (.inl (by decide))
theorem fL_no32 (N : Int × Int) : 32 ∉ fL N := by
  unfold fL
  split
  · exact zL_no32 _
  · intro z
    rcases List.mem_append.mp z with z | z
    · exact zL_no32 _ z
    · rcases List.mem_cons.mp z with z | z
      · exact absurd z (by decide)
      · exact zL_no32 _ z
theorem wds_no {x : Str} (h : NmOk x) (N : Int × Int) : ∀ p ∈ wds x N, 32 ∉ p := by
  unfold wds
  intro p hp
  rcases List.mem_cons.mp hp with z | z
  · rw [z]
    unfold sgC
    split <;> decide
  · rcases List.mem_append.mp z with z | z
    · split at z
      · cases z
      · rw [List.mem_singleton.mp z]
        exact fL_no32 _
    · rw [List.mem_singleton.mp z]
      exact nm_no h (by decide)
theorem allW_split {f : Key → Int × Int} {ys : List Str} (ne : ys ≠ []) (h : ∀ y ∈ ys, NmOk y) : spl [32] 0 [] (joinL [32] (allW f ys)) = allW f ys := by
  refine spl_join ?_ fun p hp => ?_
  · cases ys with
    | nil => exact absurd rfl ne
    | cons y r =>
      obtain ⟨t, e1, e2, e3⟩ := wds_text y (f (.inr y))
      unfold allW
      rw [List.flatMap_cons, e1]
      simp
  · unfold allW at hp
    obtain ⟨y, hy, hp⟩ := List.mem_flatMap.mp hp
    exact wds_no (h y hy) _ p hp
theorem fL_head (n : Nat) (d : Int) : ∃ c r, fL ((n : Int), d) = c :: r ∧ 48 ≤ c ∧ c ≤ 57 := by
  obtain ⟨c, r, e, h⟩ := numL_head n
  unfold fL
  split
  · rw [zL_nat]
    exact ⟨c, r, e, h⟩
  · rw [zL_nat, e]
    exact ⟨c, _, rfl, h⟩
theorem trm_head {x : Str} (h : NmOk x) (N : Int × Int) : ∃ c r, trmL x N = c :: r ∧ c ≠ 45 ∧ c ≠ 32 := by
  unfold trmL
  split
  · have l : 0 < (tl x).length := h.1
    obtain ⟨c, r, e⟩ := List.exists_cons_of_ne_nil (List.length_pos_iff.mp l)
    have z := h.2.2 c (show c ∈ tl x by rw [e]; exact List.mem_cons_self)
    exact ⟨c, r, e, by omega, by omega⟩
  · obtain ⟨c, r, e, h1, h2⟩ := fL_head N.1.natAbs N.2
    unfold szN
    rw [e]
    exact ⟨c, _, rfl, by omega, by omega⟩
/-- the head of a sum's text tells its first sign -/
theorem sumL_neg {f : Key → Int × Int} {y : Str} {r : List Str} (h : NmOk y) : ngB (sumL f (y :: r)) = decide ((f (.inr y)).1 < 0) ∧ sgC (f (.inr y)) :: 32 :: bare (sumL f (y :: r)) = joinL [32] (allW f (y :: r)) := by
  rw [allW_text]
  show ngB (headL f y ++ restL f r) = _ ∧ sgC (f (.inr y)) :: 32 :: bare (headL f y ++ restL f r) = _
  unfold headL
  by_cases c : (f (.inr y)).1 < 0
  · rw [if_pos c, decide_eq_true c]
    exact ⟨rfl, rfl⟩
  · rw [if_neg c, decide_eq_false c, List.nil_append]
    obtain ⟨d, t, e, e1, _⟩ := trm_head h (f (.inr y))
    have b := bare_of (l := trmL y (f (.inr y)) ++ restL f r) (by rw [e]; show some d ≠ some 45; exact fun z => e1 (Option.some.inj z))
    rw [b.1]
    exact ⟨b.2, rfl⟩
theorem sumL_not0 {f : Key → Int × Int} {y : Str} {r : List Str} (h : NmOk y) : sumL f (y :: r) ≠ [48] := fun e => by
  have hm : ∃ c ∈ sumL f (y :: r), 97 ≤ c := by
    have l : 0 < (tl y).length := h.1
    obtain ⟨c, t, e⟩ := List.exists_cons_of_ne_nil (List.length_pos_iff.mp l)
    have cm : c ∈ tl y := by rw [e]; exact List.mem_cons_self
    refine ⟨c, ?_, (h.2.2 c cm).1⟩
    show c ∈ headL f y ++ restL f r
    refine List.mem_append_left _ ?_
    unfold headL
    refine List.mem_append_right _ ?_
    unfold trmL
    split
    · exact cm
    · exact List.mem_append_right _ (List.mem_cons_of_mem _ cm)
  obtain ⟨c, hc, h97⟩ := hm
  rw [e] at hc
  rw [List.mem_singleton.mp hc] at h97
  omega
end SS
namespace SS
open PySem PySem.Spec PyProof.Rows L2
theorem two_okb {K : PySem.W.Frag} {H : Hp} {p q : Addr} {u v : Int × Int} {A B : Nat} (h1 : FrT K H p u.1 u.2) (h2 : FrT K H q v.1 v.2) (k1 : Okb A u) (k2 : Okb B v) (l1 : A ≤ 3000) (l2 : B ≤ 3000) : Two K H [.ref p, .ref q] u.1 u.2 v.1 v.2 :=
  ⟨p, q, rfl, h1, h2, k1.1, k2.1, sm_mono k1.2.1 l1, sm_mono k1.2.2.1 l1, sm_mono k2.2.1 l2, sm_mono k2.2.2.1 l2, k1.2.2.2, k2.2.2.2⟩
end SS
namespace SS
open PySem PySem.Spec PyProof.Rows L2 TL NumText
theorem mid {Inv C : L2.St → Hp → Prop} {G : Prop} (m : (∀ σ H, Inv σ H → C σ H) → G) (k : ∀ σ H, Inv σ H → C σ H) : G := m k
theorem fig_mem (c : Nat) : c ∈ ("0123456789" : Str).cps.toList ↔ 48 ≤ c ∧ c ≤ 57 := by
  have e : ("0123456789" : Str).cps.toList = [48, 49, 50, 51, 52, 53, 54, 55, 56, 57] := by decide
  rw [e]
  simp only [List.mem_cons, List.not_mem_nil, or_false]
  omega
section
variable {P : Program} {w : World} {K : PySem.W.Frag} {mg : Str → Option Value} {base : Heap}
theorem Fun.okXC {x qual : Str} {st : Stmt} {f c : Addr} {fd : FuncData} {N ps : List Str} {k : Nat} {sp : Sp} (F : Fun K x qual st f fd) (hcode : fd.code = .ref c) (S : FnScope N ps (defScope st)) (len : ∀ vs H Q E, sp vs H Q E → vs.length = ps.length)
    (hbody : ∀ (cdv : Value) (A : Around) (outer : List Env) (s : Shared) (H : Hp) (vs : List V) (Q : VK) (E : XK), cdv = .ref c → Room k (A.deeper (envOfC qual (defScope st) s.heap.objs.size f cdv)) → sp vs H Q E →
      ∃ t, PSs (cxOf (L2.CX P w) P w K mg base N qual (defScope st) f cdv A outer s H E) (defBody st) t ∧ t { nx := fun _ H' => Q .non H', rt := Q } (start N vs) H) : FnOk P w K mg base (L2.CX P w) (k + 1) f fd ps sp := by
  obtain ⟨oc, od, kV, doc, pm, an, cdv, ct, osl, rfl, lk, hcd⟩ := F.ex
  have hc : cdv = .ref c := hcode
  exact fn_of lk hcd S len fun A outer s H vs Q E hr hsp => hbody cdv A outer s H vs Q E hc hr hsp
/-! ### read_whole -/
def spRdW (T : List Addr) (C : Addr) : Sp := fun vs H Q E => ∃ x : Str, vs = [.str x] ∧ x.length ≤ 1000 ∧ Tabs T H ∧ (wokB (tl x) = true → ∀ H', SameT T H H' → Q (.int (digitsVal (tl x) : Nat)) H') ∧ (wokB (tl x) = false → ∀ H', SameT T H H' → E (.ref C) none H')
theorem scRdW : FnScope ["text", "sign"] ["text"] (defScope sRdW) := ⟨rfl, rfl, rfl, by decide +kernel, rfl, by decide +kernel, by decide +kernel⟩
theorem ok_rdw {f c Pt C : Addr} {fd : FuncData} {tM tF : Tok} {T : List Addr} (F : Fun K "read_whole" "read_whole" sRdW f fd) (hc : fd.code = .ref c) (TB : GxR.TabB base mg c Pt) (hT : Pt ∈ T) (ml : mg "len" = none) (ma : mg "all" = none) (mi : mg "int" = none)
    (gM : mg "MOST_FIGURES" = some (.int 30 tM)) (gF : mg "FIGURES" = some (.str "0123456789" tF)) (X : ExT K mg "NoText" C) : FnOk P w K mg base (L2.CX P w) 3 f fd ["text"] (spRdW T C) := by
  refine Fun.okXC F hc scRdW (fun vs H Q E h => ?_) (fun cdv A outer s H vs Q E hcd hr h => ?_)
  · obtain ⟨_, rfl, _⟩ := h
    rfl
  · obtain ⟨x, rfl, hx, ht, q1, q0⟩ := h
    refine ⟨_, pss_cons (ps_if (PW.pt (pw_or (pt_not (pt_chain op_le op_le pe_int (pe_callB call_len (by rfl) ml PySem.boot_len (pa_cons (pv 0) pa_nil)) (pe_glob (v := .int 30) (by rfl) gM ⟨_, rfl⟩)))
        (pw_or1 (pt_not (pt_val (GxA.pe_allG (k := 0) (ix := 1) hr (by rfl) ma boot_all TB hcd (by show GxA.GxS ["text", "sign"] (defScope sRdW) _ "sign" 1; exact ⟨by rfl, by rfl, by decide +kernel, by rfl, by rfl, by decide +kernel, by decide +kernel, by rfl, by decide +kernel, by decide +kernel⟩) (pi_str (pv 0))
        (fun _ _ _ _ _ _ => pe_cmpR op_in_sign (pv 1) (pe_glob (v := .str "0123456789") (by rfl) gF ⟨_, rfl⟩) (by rfl)) (fun _ => rfl)))))))
        (pss_one (ps_raise rfl (takes_of rfl rfl rfl rfl) (pmk_own PySem.F.excBase_ValueError X.xC X.gC X.kC (raises_own X.bC X.tC) (by exact rfl)))) pss_nil)
      (pss_one (ps_ret (pe_callTy call_int_str (by rfl) mi (by decide +kernel) (pa_cons (pv 0) pa_nil)))), ?_⟩
    have el : x.length = (tl x).length := len_tl x
    have xs : x.length ≤ sizeLine := Nat.le_of_lt (small1000 hx)
    have bad : ¬ (1 ≤ (tl x).length ∧ (tl x).length ≤ 30 ∧ AllDigits (tl x)) → ∀ H', SameT T H H' → E (.ref C) none H' := fun z => q0 (Bool.eq_false_iff.mpr fun y => z (wokB_iff.mp y))
    refine ⟨_, rfl, _, x.length, rfl, ⟨xs, rfl⟩, 1, (x.length : Int), rfl, rfl, _, rfl, ite2 (fun e1 => ?_) (fun e1 => ?_)⟩
    · have c1 : (1 : Int) ≤ (x.length : Int) := of_decide_eq_true e1
      refine ⟨(x.length : Int), 30, rfl, rfl, _, rfl, ?_⟩
      by_cases c2 : (x.length : Int) ≤ 30
      · rw [decide_eq_true c2]
        refine iteF ?_
        refine ⟨_, rfl, x, rfl, ht Pt hT, fun H2 t2 => ?_⟩
        have S2 := SameT.tabbed ht (ht Pt hT) t2
        refine all_it walk_str (fun i H' => H' = H2 ∧ ∀ j c, j < i → x.cps[j]? = some c → 48 ≤ c ∧ c ≤ 57) ⟨rfl, fun j c hj => absurd hj (Nat.not_lt_zero _)⟩ (fun _ _ _ _ => trivial) ?_ ?_
        · rintro i y H3 H4 hi ⟨rfl, w2⟩ ⟨rfl, ch, hch, rfl⟩
          refine ⟨_, rfl, ch, _, rfl, rfl, _, rfl, fun hb => ⟨rfl, fun j c hj hc' => ?_⟩, fun hb => ?_⟩
          · by_cases cj : j < i
            · exact w2 j c cj hc'
            · have ej : j = i := by omega
              rw [ej, hch] at hc'
              rw [← Option.some.inj hc']
              exact (fig_mem ch).mp (of_decide_eq_true hb)
          · refine ⟨false, rfl, iteT (bad (fun ok => of_decide_eq_false hb ((fig_mem ch).mpr (ok.2.2 ch ?_))) _ S2)⟩
            rw [← Array.getElem?_toList] at hch
            exact List.mem_of_getElem? hch
        · rintro H3 ⟨rfl, w2⟩
          have ok : AllDigits (tl x) := fun ch hm => by
            obtain ⟨j, hj, e⟩ := List.getElem_of_mem hm
            refine w2 j ch (by rw [Array.length_toList] at hj; exact hj) ?_
            rw [← Array.getElem?_toList, List.getElem?_eq_getElem hj, e]
          refine ⟨true, rfl, iteF ⟨_, rfl, x, (digitsVal (tl x) : Nat), rfl, intText_digits ok (List.length_pos_iff.mp (show 0 < (tl x).length by omega)) (by omega), by omega, q1 (wokB_iff.mpr ⟨by omega, by omega, ok⟩) _ S2⟩⟩
      · rw [decide_eq_false c2]
        exact iteT (bad (fun ok => c2 (by have := ok.2.1; omega)) _ (SameT.refl ht))
    · exact ⟨false, rfl, iteT (bad (fun ok => e1 (decide_eq_true (by have := ok.1; omega))) _ (SameT.refl ht))⟩
end
end SS
namespace SS
open PySem PySem.Spec PyProof.Rows L2 TL NumText
theorem tl_ftx (N : Int × Int) : tl (ftx N.1 N.2) = fL N := by
  unfold ftx fL
  by_cases c : N.2 = 1
  · rw [if_pos c, if_pos c]
    exact tl_int _
  · rw [if_neg c, if_neg c, empty_app, tl_append, tl_append, tl_int, tl_int, List.append_assoc]
    rfl
theorem fr_nat {n d : Nat} (hd : d ≠ 0) : ∃ p q : Nat, fr1 (n : Int) (d : Int) = (p : Int) ∧ fr2 (n : Int) (d : Int) = (q : Int) ∧ p * Nat.gcd n d = n ∧ q * Nat.gcd n d = d := by
  have nz : (d : Int) ≠ 0 := by omega
  have g0 : 0 < Nat.gcd n d := Nat.gcd_pos_of_pos_right _ (by omega)
  have e : sgd (n : Int) (d : Int) = ((Nat.gcd n d : Nat) : Int) := by
    unfold sgd
    rw [if_neg (by omega)]
    rfl
  refine ⟨n / Nat.gcd n d, d / Nat.gcd n d, ?_, ?_, Nat.div_mul_cancel (Nat.gcd_dvd_left n d), Nat.div_mul_cancel (Nat.gcd_dvd_right n d)⟩
  · unfold fr1
    rw [e, Int.fdiv_eq_ediv_of_nonneg _ (by omega)]
    rfl
  · unfold fr2
    rw [e, Int.fdiv_eq_ediv_of_nonneg _ (by omega)]
    rfl
theorem neg_fr {p q : Nat} (h : Nat.gcd p q = 1) (hq : q ≠ 0) : fr1 ((p : Int) * -1) ((q : Int) * 1) = -(p : Int) ∧ fr2 ((p : Int) * -1) ((q : Int) * 1) = (q : Int) := by
  have g : Int.gcd ((p : Int) * -1) ((q : Int) * 1) = 1 := by
    rw [Int.mul_one, Int.mul_neg, Int.mul_one, Int.neg_gcd]
    exact h
  have e : sgd ((p : Int) * -1) ((q : Int) * 1) = 1 := by
    unfold sgd
    rw [g, if_neg (by omega)]
    rfl
  unfold fr1 fr2
  rw [e, Int.fdiv_one, Int.fdiv_one]
  omega
section
variable {P : Program} {w : World} {K : PySem.W.Frag} {mg : Str → Option Value} {base : Heap}
theorem tl_dash : tl ("-" : Str) = [45] := by decide
theorem tl_stroke : tl ("/" : Str) = [47] := by decide
theorem startswith_tl (x : Str) : Txt.startswith x "-" = ngB (tl x) := by
  rw [Bool.eq_iff_iff]
  have z := at_iff (x := x) (y := "-") (by rw [tl_dash]; simp) 0
  unfold Txt.startswith
  rw [Bool.and_eq_true, decide_eq_true_iff]
  refine Iff.trans z ?_
  rw [tl_dash, List.drop_zero]
  unfold pre ngB
  cases tl x with
  | nil => decide
  | cons a r =>
    show ((a :: r.take 0) == [45]) = true ↔ decide (some a = some 45) = true
    rw [List.take_zero, beq_iff_eq, decide_eq_true_iff]
    exact ⟨fun e => by rw [(List.cons.inj e).1], fun e => by rw [Option.some.inj e]⟩
theorem removeprefix_tl (x : Str) : tl (Txt.removeprefix x "-") = bare (tl x) := by
  rw [PySem.StrLaws.removeprefix_eq]
  show tl (if Txt.startswith x "-" = true then _ else _) = _
  rw [startswith_tl]
  unfold bare
  by_cases c : ngB (tl x) = true
  · rw [if_pos c, if_pos c]
    show (List.drop 1 (tl x)).take (x.length - 1) = _
    rw [List.drop_one, List.take_of_length_le]
    rw [List.length_tail, len_tl]
    exact Nat.le_refl _
  · rw [if_neg c, if_neg c]
theorem sg_abs (b : Bool) (n : Nat) : (sg b n).natAbs = n := by
  unfold sg
  split <;> omega
theorem okb_sg {b : Bool} {p q : Nat} (g : Nat.gcd p q = 1) (q0 : q ≠ 0) (hp : p < 10 ^ 30) (hq : q < 10 ^ 30) : Okb 100 (sg b p, (q : Int)) := by
  have t : (10 : Nat) ^ 30 < 2 ^ 100 := by decide
  refine ⟨by show 0 < (q : Int); omega, ?_, ?_, ?_⟩
  · show (sg b p).natAbs < 2 ^ 100
    rw [sg_abs]
    exact Nat.lt_trans hp t
  · show ((q : Int)).natAbs < 2 ^ 100
    rw [Int.natAbs_natCast]
    exact Nat.lt_trans hq t
  · show Nat.gcd (sg b p).natAbs ((q : Int)).natAbs = 1
    rw [sg_abs, Int.natAbs_natCast]
    exact g
theorem wok_lt {l : List Nat} (h : wokB l = true) : digitsVal l < 10 ^ 30 := by
  obtain ⟨h1, h2, h3⟩ := wokB_iff.mp h
  exact Nat.lt_of_lt_of_le (dgv_lt l h3) (Nat.pow_le_pow_right (by decide) h2)
/-! ### read_fraction -/
def spRdF (T : List Addr) (C : Addr) : Sp := fun vs H Q E => ∃ x : Str, vs = [.str x] ∧ x.length ≤ 1000 ∧ Tabs T H ∧ (∀ N, rd (tl x) = some N → ∀ H' p, SameT T H H' → H p = none → H' p = some (.tup [.int N.1, .int N.2]) → Okb 100 N → Q (.ref p) H') ∧ (rd (tl x) = none → ∀ H', SameT T H H' → E (.ref C) none H')
theorem scRdF : FnScope ["text", "top", "slash", "bottom", "divisor", "size", "told"] ["text"] (defScope sRdF) := ⟨rfl, rfl, rfl, by decide +kernel, rfl, by decide +kernel, by decide +kernel⟩
set_option maxHeartbeats 2000000 in
theorem ok_rdf {f C CF aM : Addr} {fd : FuncData} {T : List Addr} (F : Fun K "read_fraction" "read_fraction" sRdF f fd) (X : ExT K mg "NoText" C) (gM : mg "MINUS_ONE" = some (.ref aM)) (hM : ∀ H, FrT K H aM (-1) 1)
    (rw' : Cl P w K mg base (L2.CX P w) 3 "read_whole" (spRdW T C) []) (fo : Cl P w K mg base (L2.CX P w) 2 "fraction_of" (spFo CF) []) (tm : Cl P w K mg base CX0 3 "times" (spTimes K) []) (ft : Cl P w K mg base CX0 1 "fraction_text" (spFtx K) []) : FnOk P w K mg base (L2.CX P w) 4 f fd ["text"] (spRdF T C) := by
  refine F.okX scRdF (fun vs H Q E h => ?_) (fun cdv A outer s H vs Q E hr h => ?_)
  · obtain ⟨_, rfl, _⟩ := h
    rfl
  · obtain ⟨x, rfl, hx, ht, q1, q0⟩ := h
    refine ⟨_, pss_cons (ps_asg (pe_partition (pe_m1 PySem.F.slot_str_removeprefix PySem.F.type_str_removeprefix mt_removeprefix (pv 0) pe_str) pe_str) (pg_tup rfl (pgs_cons (pg_name (i := 1) scRdF.nd rfl (.inl rfl)) (pgs_cons (pg_name (i := 2) scRdF.nd rfl (.inl rfl)) (pgs_cons (pg_name (i := 3) scRdF.nd rfl (.inl rfl)) pgs_nil)))))
      (pss_cons (ps_set (i := 4) scRdF.nd rfl (.inl rfl) (pe_ifExp (pt_truth (pv 2) (by intro _; rfl)) (pcS rw' hr (by decide) (fun σ => passAt (takes_of rfl rfl rfl rfl) σ) (pa_cons (pv 3) pa_nil)) pe_int))
      (pss_cons (ps_if (pt_cmpR op_eq (pv 4) pe_int (nomark _)) (pss_one (ps_raise rfl (takes_of rfl rfl rfl rfl) (pmk_own PySem.F.excBase_ValueError X.xC X.gC X.kC (raises_own X.bC X.tC) (by exact rfl)))) pss_nil)
      (pss_cons (ps_set (i := 5) scRdF.nd rfl (.inl rfl) (pcX fo hr (by decide) (pa_cons (pcS rw' hr (by decide) (fun σ => passAt (takes_of rfl rfl rfl rfl) σ) (pa_cons (pv 1) pa_nil)) (pa_cons (pv 4) pa_nil))))
      (pss_cons (ps_set (i := 6) scRdF.nd rfl (.inl rfl) (pe_ifExp (pt_val (pe_m1 PySem.F.slot_str_startswith PySem.F.type_str_startswith mt_startswith (pv 0) pe_str)) (pc0 tm hr (by decide) (pa_cons (pv 5) (pa_cons (pe_glob (v := .ref aM) (by rfl) gM rfl) pa_nil))) (pv 5)))
      (pss_cons (ps_if (pt_cmpR op_ne (pc0 ft hr (by decide) (pa_cons (pv 6) pa_nil)) (pv 0) (nomark _)) (pss_one (ps_raise rfl (takes_of rfl rfl rfl rfl) (pmk_own PySem.F.excBase_ValueError X.xC X.gC X.kC (raises_own X.bC X.tC) (by exact rfl)))) pss_nil)
      (pss_one (ps_ret (pv 6)))))))), ?_⟩
    have xs : x.length ≤ sizeLine := Nat.le_of_lt (small1000 hx)
    have ey := removeprefix_tl x
    have hy : (Txt.removeprefix x "-").length ≤ 1000 := by
      rw [len_tl, ey]
      have e := len_tl x
      unfold bare
      split
      · rw [List.length_tail]
        omega
      · omega
    have ys := Nat.le_of_lt (small1000 hy)
    refine ⟨_, rfl, ⟨_, rfl⟩, x, _, rfl, rfl, xs, ⟨_, rfl⟩, Txt.removeprefix x "-", "/", rfl, rfl, by decide, ys, fun p0 np0 => ?_⟩
    generalize Txt.removeprefix x "-" = y at ey hy ys np0 ⊢
    refine' mid (C := _) (Inv := fun σ H' => ∃ (y1 y2 y3 y4 : Option V) (p3 : Addr) (p q : Nat), σ = [some (.str x), y1, y2, y3, y4, some (.ref p3), none] ∧ SameT T H H' ∧ H p3 = none ∧ H' p3 = some (.tup [.int (p : Int), .int (q : Int)]) ∧ Nat.gcd p q = 1 ∧ q ≠ 0 ∧ p < 10 ^ 30 ∧ q < 10 ^ 30 ∧
      (fL (sg (ngB (tl x)) p, (q : Int)) = tl x → rd (tl x) = some (sg (ngB (tl x)) p, (q : Int))) ∧ (fL (sg (ngB (tl x)) p, (q : Int)) ≠ tl x → rd (tl x) = none)) (fun key => ?main) ?cont
    case main =>
      rcases cut47 (bare (tl x)) with h47 | ⟨a, b, eab, h47⟩
      · have ep : Txt.partition y "/" = (y, Str.empty, Str.empty) := partition_none tl_stroke (by rw [ey]; exact h47)
        rw [ep]
        have s0 := same_new (o := .tup [.str y, .str Str.empty, .str Str.empty]) np0
        have t0 := SameT.of ht s0
        refine ⟨p0, _, rfl, SqT.of upd_same, rfl, _, _, rfl, _, _, rfl, _, _, rfl, rfl, ?_⟩
        refine ⟨_, rfl, false, ⟨Nat.zero_le _, rfl⟩, iteF ?_⟩
        refine ⟨_, rfl, rfl, _, rfl, ite2 (fun z => absurd (V.int.inj (of_decide_eq_true z)) (by decide)) (fun _ => ?_)⟩
        refine ⟨_, rfl, y, rfl, hy, t0.tab, fun wk H2 s2 => ?_, fun wk H2 s2 => ?_⟩
        · rw [ey] at wk
          have t2 := t0.trans s2
          obtain ⟨p, q, e1, e2, e3, e4⟩ := fr_nat (n := digitsVal (bare (tl x))) (d := 1) (by decide)
          rw [Nat.gcd_one_right, Nat.mul_one] at e3 e4
          subst e3 e4
          rw [ey]
          refine ⟨_, rfl, (digitsVal (bare (tl x)) : Nat), 1, rfl, fun z => absurd z (by decide), fun _ => ⟨by decide, fun p3 np3 => ?_⟩⟩
          have s3 := same_new (o := .tup [.int (fr1 ((digitsVal (bare (tl x)) : Nat) : Int) 1), .int (fr2 ((digitsVal (bare (tl x)) : Nat) : Int) 1)]) np3
          have hp3 := upd_same (H := H2) (a := p3) (o := .tup [.int (fr1 ((digitsVal (bare (tl x)) : Nat) : Int) 1), .int (fr2 ((digitsVal (bare (tl x)) : Nat) : Int) 1)])
          have e1' : fr1 ((digitsVal (bare (tl x)) : Nat) : Int) 1 = (digitsVal (bare (tl x)) : Nat) := e1
          have e2' : fr2 ((digitsVal (bare (tl x)) : Nat) : Int) 1 = ((1 : Nat) : Int) := e2
          rw [e1', e2'] at hp3 s3 ⊢
          have r1 := rd_one h47 wk
          have ef : fL (sg (ngB (tl x)) (digitsVal (bare (tl x))), ((1 : Nat) : Int)) = zL (sg (ngB (tl x)) (digitsVal (bare (tl x)))) := if_pos rfl
          dsimp only [gName]
          exact key _ _ ⟨_, _, _, _, p3, digitsVal (bare (tl x)), 1, rfl, t2.trans (SameT.of t2.tab s3), t2.free np3, hp3, Nat.gcd_one_right _, by decide, wok_lt wk, by decide, fun z => r1.1 (ef.symm.trans z), fun z => r1.2 fun z2 => z (ef.trans z2)⟩
        · rw [ey] at wk
          exact q0 (rd_one_no h47 wk) _ (t0.trans s2)
      · have ep : Txt.partition y "/" = ((⟨a.toArray⟩ : Str), ("/" : Str), (⟨b.toArray⟩ : Str)) := by
          rw [partition_par _ _ (by rw [tl_stroke]; simp), tl_stroke, ey, eab, par47_cut h47]
        rw [ep]
        have s0 := same_new (o := .tup [.str ⟨a.toArray⟩, .str "/", .str ⟨b.toArray⟩]) np0
        have t0 := SameT.of ht s0
        have la : (⟨a.toArray⟩ : Str).length ≤ 1000 ∧ (⟨b.toArray⟩ : Str).length ≤ 1000 := by
          have z := congrArg List.length (ey.trans eab)
          rw [← len_tl, List.length_append, List.length_cons] at z
          rw [len_tl, len_tl, tl_mk, tl_mk]
          omega
        refine ⟨p0, _, rfl, SqT.of upd_same, rfl, _, _, rfl, _, _, rfl, _, _, rfl, rfl, ?_⟩
        refine ⟨_, rfl, true, ⟨(show ("/" : Str).length ≤ sizeLine from Nat.le_of_lt (small1000 (by decide))), rfl⟩, iteT ?_⟩
        refine ⟨_, rfl, ⟨b.toArray⟩, rfl, la.2, t0.tab, fun wb H2 s2 => ?_, fun wb H2 s2 => q0 (rd_two_no eab h47 (.inr wb)) _ (t0.trans s2)⟩
        have t2 := t0.trans s2
        have wb' : wokB b = true := wb
        refine ⟨_, rfl, rfl, _, rfl, ite2 (fun z => q0 (rd_two_0 eab h47 wb ?_) _ t2) (fun z => ?_)⟩
        · have z2 : ((digitsVal b : Nat) : Int) = 0 := V.int.inj (of_decide_eq_true z)
          omega
        · have d0 : digitsVal b ≠ 0 := fun z2 => z (decide_eq_true (by show V.int ((digitsVal b : Nat) : Int) = V.int 0; rw [z2]; rfl))
          refine ⟨_, rfl, ⟨a.toArray⟩, rfl, la.1, t2.tab, fun wa H3 s3 => ?_, fun wa H3 s3 => q0 (rd_two_no eab h47 (.inl wa)) _ (t2.trans s3)⟩
          have t3 := t2.trans s3
          have wa' : wokB a = true := wa
          obtain ⟨p, q, e1, e2, e3, e4⟩ := fr_nat (n := digitsVal a) (d := digitsVal b) d0
          refine ⟨_, rfl, (digitsVal a : Nat), (digitsVal b : Nat), rfl, fun z2 => absurd z2 (by omega), fun _ => ⟨?_, fun p3 np3 => ?_⟩⟩
          · rw [Int.natAbs_natCast]
            exact Nat.lt_of_lt_of_le (wok_lt wb') (by decide)
          · have s4 := same_new (o := .tup [.int (fr1 ((digitsVal a : Nat) : Int) ((digitsVal b : Nat) : Int)), .int (fr2 ((digitsVal a : Nat) : Int) ((digitsVal b : Nat) : Int))]) np3
            have hp3 := upd_same (H := H3) (a := p3) (o := .tup [.int (fr1 ((digitsVal a : Nat) : Int) ((digitsVal b : Nat) : Int)), .int (fr2 ((digitsVal a : Nat) : Int) ((digitsVal b : Nat) : Int))])
            have gg : Nat.gcd p q = 1 := by
              have z2 := fr_gcd (t := ((digitsVal a : Nat) : Int)) (b := ((digitsVal b : Nat) : Int)) (by omega)
              rw [e1, e2] at z2
              exact z2
            rw [e1, e2] at hp3 s4 ⊢
            have q0' : q ≠ 0 := fun z2 => by
              rw [z2, Nat.zero_mul] at e4
              exact d0 e4.symm
            have g0 : 0 < Nat.gcd (digitsVal a) (digitsVal b) := Nat.gcd_pos_of_pos_right _ (by omega)
            have pl : p ≤ digitsVal a := by
              have := Nat.le_mul_of_pos_right p g0
              omega
            have ql : q ≤ digitsVal b := by
              have := Nat.le_mul_of_pos_right q g0
              omega
            have r2 := rd_two eab wa' wb' d0 e3 e4
            exact key _ _ ⟨_, _, _, _, p3, p, q, rfl, t3.trans (SameT.of t3.tab s4), t3.free np3, hp3, gg, q0', Nat.lt_of_le_of_lt pl (wok_lt wa'), Nat.lt_of_le_of_lt ql (wok_lt wb'), r2.1, r2.2⟩
    case cont =>
      rintro σ H1 ⟨y1, y2, y3, y4, p3, p, q, rfl, t1, n3, h3, gg, q0', hp, hq, r1, r2⟩
      refine' mid (C := _) (Inv := fun σ H' => ∃ (y1 y2 y3 y4 y5 : Option V) (p6 : Addr), σ = [some (.str x), y1, y2, y3, y4, y5, some (.ref p6)] ∧ SameT T H H' ∧ H p6 = none ∧ H' p6 = some (.tup [.int (sg (ngB (tl x)) p), .int (q : Int)])) (fun key => ?main2) ?cont2
      case main2 =>
        refine ⟨_, rfl, ⟨_, rfl⟩, x, _, rfl, rfl, _, rfl, ?_⟩
        rw [startswith_tl]
        cases c : ngB (tl x) with
        | true =>
          refine iteT ⟨_, rfl, (p : Int), (q : Int), -1, 1, two_okb (u := ((p : Int), (q : Int))) (v := (-1, 1)) (FrT.of h3) (hM _) (okb_sg (b := false) gg q0' hp hq) (⟨by decide, by decide, by decide, by decide⟩ : Okb 1 ((-1, 1) : Int × Int)) (by decide) (by decide), fun r nr => ?_⟩
          have s4 := same_new (o := .tup [.int (fr1 ((p : Int) * -1) ((q : Int) * 1)), .int (fr2 ((p : Int) * -1) ((q : Int) * 1))]) nr
          have h4 := upd_same (H := H1) (a := r) (o := .tup [.int (fr1 ((p : Int) * -1) ((q : Int) * 1)), .int (fr2 ((p : Int) * -1) ((q : Int) * 1))])
          obtain ⟨e1, e2⟩ := neg_fr gg q0'
          rw [e1, e2] at s4 h4 ⊢
          dsimp only [gName]
          exact key _ _ ⟨_, _, _, _, _, r, rfl, t1.trans (SameT.of t1.tab s4), t1.free nr, by rw [c]; exact h4⟩
        | false =>
          refine iteF ⟨_, rfl, ?_⟩
          dsimp only [gName]
          exact key _ _ ⟨_, _, _, _, _, p3, rfl, t1, n3, by rw [c]; exact h3⟩
      case cont2 =>
        rintro σ H2 ⟨z1, z2, z3, z4, z5, p6, rfl, t2, n6, h6⟩
        have ok6 := okb_sg (b := ngB (tl x)) gg q0' hp hq
        refine ⟨_, rfl, p6, (sg (ngB (tl x)) p, (q : Int)), rfl, FrT.of h6, ok6.mono (by decide), _, rfl, rfl, _, rfl, ite2 (fun e => ?_) (fun e => ?_)⟩
        · refine q0 (r2 fun z => ?_) _ t2
          have e' : (!decide (V.str (ftx (sg (ngB (tl x)) p) (q : Int)) = V.str x)) = true := e
          rw [decide_eq_true] at e'
          · cases e'
          · exact congrArg V.str (ext_tl ((tl_ftx (sg (ngB (tl x)) p, (q : Int))).trans z))
        · have e2 : fL (sg (ngB (tl x)) p, (q : Int)) = tl x := by
            refine Classical.byContradiction fun z => e ?_
            show (!decide (V.str (ftx (sg (ngB (tl x)) p) (q : Int)) = V.str x)) = true
            rw [decide_eq_false fun y => z ?_]
            · rfl
            · rw [← tl_ftx]
              exact congrArg tl (V.str.inj y)
          exact ⟨_, rfl, q1 _ (r1 e2) _ p6 t2 n6 h6 ok6⟩
end
end SS
namespace SS
open PySem PySem.Spec PyProof.Rows L2 TL NumText
/-! ### sorted unknowns of a sum -/
def SK (f : Key → Int × Int) (ys : List Str) : Prop := sortedS ys = true ∧ ys.Nodup ∧ (∀ x, x ∈ ys ↔ (f (.inr x)).1 ≠ 0) ∧ ∀ x ∈ ys, NmOk x
theorem sk_uniq {f : Key → Int × Int} {ys zs : List Str} (h : SK f ys) (h' : SK f zs) : ys = zs :=
  sorted_uniq h.1 h'.1 ((List.perm_ext_iff_of_nodup h.2.1 h'.2.1).mpr fun x => (h.2.2.1 x).trans (h'.2.2.1 x).symm)
theorem sk_of {m : Nat} {H : Hp} {a : Addr} {kvs : List (Key × V)} {f : Key → Int × Int} {ys : List Str} (h : DM True m H a kvs f) (p : ys.Perm (kvs.map fun p => nmOf p.1)) (s : sortedS ys = true) : SK f ys ∧ ys.length ≤ m := by
  have kn := keys_nm h
  have nd : (kvs.map fun p => nmOf p.1).Nodup := by
    have z := h.2.1
    rw [kn] at z
    exact List.Pairwise.of_map (S := (· ≠ ·)) Sum.inr (fun a b h e => h (congrArg _ e)) z
  have mem : ∀ x, x ∈ (kvs.map fun p => nmOf p.1) ↔ (Sum.inr x : Key) ∈ kvs.map (·.1) := fun x => by
    rw [kn]
    refine ⟨fun z => List.mem_map.mpr ⟨x, z, rfl⟩, fun z => ?_⟩
    obtain ⟨y, hy, e⟩ := List.mem_map.mp z
    rw [← Sum.inr.inj e]
    exact hy
  refine ⟨⟨s, p.nodup_iff.mpr nd, fun x => ?_, fun x hx => ?_⟩, ?_⟩
  · rw [p.mem_iff, mem]
    refine ⟨fun z => ?_, fun z => ?_⟩
    · obtain ⟨q, hq, e⟩ := List.mem_map.mp z
      have e' : q.1 = .inr x := e
      have y := (h.2.2.2.1 q hq).2.2 trivial
      rw [e'] at y
      exact y
    · refine Classical.byContradiction fun y => z ?_
      rw [h.out y]
  · obtain ⟨q, hq, e⟩ := List.mem_map.mp ((mem x).mp (p.mem_iff.mp hx))
    obtain ⟨⟨z, e1, ok⟩, _⟩ := h.2.2.2.1 q hq
    have e' : q.1 = .inr x := e
    rw [e1] at e'
    rw [← Sum.inr.inj e']
    exact ok
  · rw [p.length_eq, List.length_map]
    exact h.2.2.1
/-- a fraction of at most thirty figures above and below -/
def Fg (N : Int × Int) : Prop := 0 < N.2 ∧ N.1.natAbs < 10 ^ 30 ∧ N.2.natAbs < 10 ^ 30 ∧ Int.gcd N.1 N.2 = 1
theorem fg_okb {N : Int × Int} (h : Fg N) : Okb 100 N := ⟨h.1, Nat.lt_trans h.2.1 (by decide), Nat.lt_trans h.2.2.1 (by decide), h.2.2.2⟩
theorem rd_fg {N : Int × Int} (h : Fg N) : rd (fL N) = some N := rd_fL h.1 h.2.2.2 h.2.1 h.2.2.1
abbrev Fb (N : Int × Int) : Prop := Okb 1900 N
theorem fb_sz {N : Int × Int} (h : Fb N) : Fb (szN N) := ⟨h.1, by show ((N.1.natAbs : Int)).natAbs < _; rw [Int.natAbs_natCast]; exact h.2.1, h.2.2.1, by show Int.gcd (N.1.natAbs : Int) N.2 = 1; unfold Int.gcd; rw [Int.natAbs_natCast]; exact h.2.2.2⟩
theorem big572 : (2 : Nat) ^ 1900 < 10 ^ 572 := by decide +kernel
theorem zL_len {n : Int} (h : n.natAbs < 2 ^ 1900) : (zL n).length ≤ 573 := by
  have z := numL_len (n := n.natAbs) (k := 572) (by decide) (Nat.lt_trans h big572)
  unfold zL
  split
  · rw [List.length_cons]
    omega
  · omega
theorem fL_len {N : Int × Int} (h : Fb N) : (fL N).length ≤ 1147 := by
  have a := zL_len h.2.1
  have b := zL_len h.2.2.1
  unfold fL
  split
  · omega
  · rw [List.length_append, List.length_cons]
    omega
theorem tl_nm {x : Str} (h : NmOk x) : (tl x).length ≤ 6 := by
  rw [← len_tl]
  exact nm_len h
theorem trm_len {x : Str} {N : Int × Int} (h : NmOk x) (g : Fb N) : (trmL x N).length ≤ 1154 := by
  have a := tl_nm h
  have b := fL_len (fb_sz g)
  unfold trmL
  split
  · omega
  · rw [List.length_append, List.length_cons]
    omega
theorem rest_len {f : Key → Int × Int} (g : ∀ k, Fb (f k)) : ∀ (ys : List Str), (∀ y ∈ ys, NmOk y) → (restL f ys).length ≤ 1157 * ys.length
  | [], _ => by
    show 0 ≤ 0
    omega
  | y :: r, h => by
    have i := rest_len g r fun z hz => h z (List.mem_cons_of_mem _ hz)
    have t := trm_len (h y List.mem_cons_self) (g (.inr y))
    have e : restL f (y :: r) = (32 :: sgC (f (.inr y)) :: 32 :: trmL y (f (.inr y))) ++ restL f r := by
      unfold restL
      rw [List.flatMap_cons]
    rw [e, List.length_append, List.length_cons, List.length_cons, List.length_cons, List.length_cons]
    omega
theorem sum_len {f : Key → Int × Int} (g : ∀ k, Fb (f k)) {ys : List Str} (h : ∀ y ∈ ys, NmOk y) : (sumL f ys).length ≤ 1157 * ys.length + 1 := by
  cases ys with
  | nil =>
    show 1 ≤ 1
    omega
  | cons y r =>
    have i := rest_len g r fun z hz => h z (List.mem_cons_of_mem _ hz)
    have t := trm_len (h y List.mem_cons_self) (g (.inr y))
    show (headL f y ++ restL f r).length ≤ _
    unfold headL
    rw [List.length_append, List.length_append, List.length_cons]
    split
    · show 1 + _ + _ ≤ _
      omega
    · show 0 + _ + _ ≤ _
      omega
theorem eqv_one (n d : Int) : PyData.eqv (.tuple [.int n, .int d]) (.tuple [.int 1, .int 1]) = (n == 1 && d == 1) := by
  simp [PyData.eqv, PyData.eqvAll]
theorem abs_nat (i : Int) : (if i < 0 then -i else i) = (i.natAbs : Int) := by
  split <;> omega
section
variable {P : Program} {w : World} {K : PySem.W.Frag} {mg : Str → Option Value} {base : Heap}
/-! ### term_text -/
def spTmx (K : PySem.W.Frag) : Sp := fun vs H Q _ => ∃ (x : Str) (p : Addr) (N : Int × Int), vs = [.str x, .ref p] ∧ NmOk x ∧ FrT K H p N.1 N.2 ∧ Fb N ∧ ∀ H' s, Same H H' → tl s = trmL x N → Q (.str s) H'
theorem scTmx : FnScope ["unknown", "number", "size"] ["unknown", "number"] (defScope sTmx) := ⟨rfl, rfl, rfl, by decide +kernel, rfl, by decide +kernel, by decide +kernel⟩
theorem ok_tmx {f' aO : Addr} {fd : FuncData} (F : Fun K "term_text" "term_text" sTmx f' fd) (ma : mg "abs" = none) (gO : mg "ONE" = some (.ref aO)) (hO : ∀ H, FrT K H aO 1 1) (ft : Cl P w K mg base CX0 1 "fraction_text" (spFtx K) []) : FnOk P w K mg base CX0 2 f' fd ["unknown", "number"] (spTmx K) := by
  refine F.ok scTmx (fun vs H Q E h => ?_) (fun cdv A outer s H vs Q E hr h => ?_)
  · obtain ⟨_, _, _, rfl, _⟩ := h
    rfl
  · obtain ⟨x, p, N, rfl, hx, fp, g, q⟩ := h
    refine ⟨_, pss_cons (ps_set (i := 2) scTmx.nd rfl (.inl rfl) (pe_tup (pa_cons (pe_callB call_abs (by rfl) ma boot_abs (pa_cons (pe_ix ix_tup (pv 1) pe_int (fun _ _ => rfl)) pa_nil)) (pa_cons (pe_ix ix_tup (pv 1) pe_int (fun _ _ => rfl)) pa_nil))))
      (pss_one (ps_ret (pe_ifExp (pt_cmpR (op_eqD hr.units) (pv 2) (pe_glob (v := .ref aO) (by rfl) gO rfl) (nomark _)) (pv 0) (pe_joined (.cons (pe_fmt (pc0 ft hr (by decide) (pa_cons (pv 2) pa_nil))) (.cons pe_str (.cons (pe_fmt (pv 0)) .nil))))))), ?_⟩
    refine ⟨_, rfl, p, _, 0, _, rfl, rfl, fp.1, atI_nat (j := 0) rfl, _, rfl, ?_⟩
    rw [abs_nat]
    refine ⟨_, rfl, p, _, 1, _, rfl, rfl, fp.1, atI_nat (j := 1) rfl, small2, fun T nT => ?_⟩
    have sT := same_new (o := .tup [.int (N.1.natAbs : Int), .int N.2]) nT
    have hT := upd_same (H := H) (a := T) (o := .tup [.int (N.1.natAbs : Int), .int N.2])
    generalize upd H T (.tup [.int (N.1.natAbs : Int), .int N.2]) = H1 at sT hT ⊢
    have fT : FrT K H1 T (szN N).1 (szN N).2 := FrT.of hT
    refine ⟨_, rfl, .tuple [.int (N.1.natAbs : Int), .int N.2], .tuple [.int 1, .int 1], .tup fT.1 (.cons (.int _) (.cons (.int _) .nil)), .tup (hO _).1 (.cons (.int _) (.cons (.int _) .nil)), rfl, rfl, _, rfl, ?_⟩
    rw [eqv_one]
    refine ite2 (fun e => ?_) (fun e => ?_)
    · rw [Bool.and_eq_true, beq_iff_eq, beq_iff_eq] at e
      have e' : szN N = (1, 1) := Prod.ext e.1 e.2
      refine ⟨_, rfl, q _ x sT ?_⟩
      unfold trmL
      rw [if_pos e']
    · have e' : szN N ≠ (1, 1) := fun z => e (by
        have z1 : (N.1.natAbs : Int) = 1 := congrArg Prod.fst z
        have z2 : N.2 = 1 := congrArg Prod.snd z
        rw [z1, z2]
        decide)
      have ok := fb_sz g
      have lf : (ftx (szN N).1 (szN N).2).length ≤ 1147 := by
        rw [len_tl, tl_ftx]
        exact fL_len (fb_sz g)
      have lx := nm_len hx
      have e0 : (Str.empty).length = 0 := by decide
      have e1 : ((" " : Str)).length = 1 := by decide
      refine ⟨_, rfl, T, szN N, rfl, fT, ok, .inl ⟨_, rfl, sz5 (by omega), _, rfl, ?_, _, rfl, ?_, _, rfl, .inl ⟨x, rfl, sz5 (by omega), _, rfl, ?_, q _ _ sT ?_⟩⟩⟩
      · simp only [len_app]; exact sz5 (by omega)
      · simp only [len_app]; exact sz5 (by omega)
      · simp only [len_app]; exact sz5 (by omega)
      · rw [tl_append, tl_append, empty_app, tl_ftx, tl_blank]
        unfold trmL
        rw [if_neg e', List.append_assoc]
        rfl
end
end SS
namespace SS
open PySem PySem.Spec PyProof.Rows L2 TL NumText
/-- the pieces of a sum's text -/
noncomputable def pcs (f : Key → Int × Int) : List Str → List (List Nat)
  | [] => []
  | y :: r => headL f y :: r.map fun z => sgC (f (.inr z)) :: 32 :: trmL z (f (.inr z))
theorem pcs_snoc {f : Key → Int × Int} {ys : List Str} (h : ys ≠ []) (y : Str) : pcs f (ys ++ [y]) = pcs f ys ++ [sgC (f (.inr y)) :: 32 :: trmL y (f (.inr y))] := by
  cases ys with
  | nil => exact absurd rfl h
  | cons a r =>
    show headL f a :: (r ++ [y]).map _ = headL f a :: r.map _ ++ _
    rw [List.map_append]
    rfl
theorem pcs_join {f : Key → Int × Int} {ys : List Str} (h : ys ≠ []) : joinL [32] (pcs f ys) = sumL f ys := by
  cases ys with
  | nil => exact absurd rfl h
  | cons a r =>
    show joinL [32] (headL f a :: r.map _) = headL f a ++ restL f r
    rw [join_pieces, List.flatMap_map]
    rfl
theorem pcs_len (f : Key → Int × Int) (ys : List Str) : (pcs f ys).length = ys.length := by
  cases ys with
  | nil => rfl
  | cons a r =>
    show (r.map _).length + 1 = r.length + 1
    rw [List.length_map]
theorem tl_minus : tl ("-" : Str) = [45] := by decide
theorem tl_minusb : tl ("- " : Str) = [45, 32] := by decide
theorem tl_plusb : tl ("+ " : Str) = [43, 32] := by decide
theorem head_len {f : Key → Int × Int} {y : Str} (h : NmOk y) (g : ∀ k, Fb (f k)) : (headL f y).length ≤ 1155 := by
  have t := trm_len h (g (.inr y))
  unfold headL
  rw [List.length_append]
  split
  · show 1 + _ ≤ _
    omega
  · show 0 + _ ≤ _
    omega
theorem pcs_mem {f : Key → Int × Int} {ys : List Str} (g : ∀ k, Fb (f k)) (h : ∀ y ∈ ys, NmOk y) : ∀ p ∈ pcs f ys, p.length ≤ 1156 := by
  cases ys with
  | nil => intro p hp; cases hp
  | cons a r =>
    intro p hp
    rcases List.mem_cons.mp hp with z | z
    · rw [z]
      exact Nat.le_succ_of_le (head_len (h a List.mem_cons_self) g)
    · obtain ⟨y, hy, rfl⟩ := List.mem_map.mp z
      have t := trm_len (h y (List.mem_cons_of_mem _ hy)) (g (.inr y))
      rw [List.length_cons, List.length_cons]
      omega
theorem nm_of_mem {z : Prop} {m : Nat} {H : Hp} {a : Addr} {kvs : List (Key × V)} {f : Key → Int × Int} (h : DM z m H a kvs f) {y : Str} (hy : y ∈ kvs.map fun p => nmOf p.1) : NmOk y ∧ ∃ r, valV kvs (.inr y) = some (.ref r) ∧ H r = some (.tup [.int (f (.inr y)).1, .int (f (.inr y)).2]) := by
  obtain ⟨p, hp, rfl⟩ := List.mem_map.mp hy
  obtain ⟨⟨x, e, ox⟩, ⟨r, e2, e3⟩, _⟩ := h.2.2.2.1 p hp
  have ev := val_nodup h.2.1 p hp
  rw [e] at ev e3
  have en : nmOf p.1 = x := by rw [e]; rfl
  rw [en]
  exact ⟨ox, r, by rw [ev, e2], e3⟩
section
variable {P : Program} {w : World} {K : PySem.W.Frag} {mg : Str → Option Value} {base : Heap}
/-! ### sum_text -/
def spSmx : Sp := fun vs H Q _ => ∃ (a : Addr) (kvs : List (Key × V)) (f : Key → Int × Int) (m : Nat), vs = [.ref a] ∧ DM True m H a kvs f ∧ m ≤ 20 ∧ (∀ k, Fb (f k)) ∧ ∀ H' ys s, Same H H' → SK f ys → ys.length ≤ m → tl s = sumL f ys → Q (.str s) H'
theorem scSmx : FnScope ["one", "words", "unknown", "is_below", "term"] ["one"] (defScope sSmx) := ⟨rfl, rfl, rfl, by decide +kernel, rfl, by decide +kernel, by decide +kernel⟩
set_option maxHeartbeats 2000000 in
theorem ok_smx {f' : Addr} {fd : FuncData} (F : Fun K "sum_text" "sum_text" sSmx f' fd) (mso : mg "sorted" = none) (tx : Cl P w K mg base CX0 2 "term_text" (spTmx K) []) : FnOk P w K mg base CX0 3 f' fd ["one"] spSmx := by
  refine F.ok scSmx (fun vs H Q E h => ?_) (fun cdv A outer s H vs Q E hr h => ?_)
  · obtain ⟨_, _, _, _, rfl, _⟩ := h
    rfl
  · obtain ⟨a, kvs, f, m, rfl, da, hm, g, q⟩ := h
    have hu := hu_of hr
    refine ⟨_, pss_cons (ps_set (i := 1) scSmx.nd rfl (.inl rfl) (pe_lst pa_nil))
      (pss_cons (ps_for PassesOwn.never rfl (pi_list (pe_callB (call_sortedD rfl) (by rfl) mso (by decide +kernel) (pa_cons (pv 0) pa_nil))) (pg_name (i := 2) scSmx.nd rfl (.inl rfl))
        (pss_cons (ps_set (i := 3) scSmx.nd rfl (.inl rfl) (pe_cmpR op_lt (pe_ix ix_tup (pe_dget hu (pv 0) (pv 2) (fun _ _ => rfl)) pe_int (fun _ _ => rfl)) pe_int (nomark _)))
        (pss_cons (ps_set (i := 4) scSmx.nd rfl (.inl rfl) (pc0 tx hr (by decide) (pa_cons (pv 2) (pa_cons (pe_dget hu (pv 0) (pv 2) (fun _ _ => rfl)) pa_nil))))
        (pss_one (ps_if (pt_truth (pv 1) (by intro _; rfl))
          (pss_one (ps_expr (pe_bm PySem.F.plainAttrs_list PySem.F.slot_list_append PySem.F.type_list_append mt_append (pv 1) (pa_cons (pe_ifExp (pt_val (pv 3)) (pe_joined (.cons pe_str (.cons (pe_fmt (pv 4)) .nil))) (pe_joined (.cons pe_str (.cons (pe_fmt (pv 4)) .nil)))) pa_nil))))
          (pss_one (ps_expr (pe_bm PySem.F.plainAttrs_list PySem.F.slot_list_append PySem.F.type_list_append mt_append (pv 1) (pa_cons (pe_ifExp (pt_val (pv 3)) (pe_joined (.cons pe_str (.cons (pe_fmt (pv 4)) .nil))) (pv 4)) pa_nil)))))))))
      (pss_one (ps_ret (pe_ifExp (pt_truth (pv 1) (by intro _; rfl)) (pe_m1 PySem.F.slot_str_join PySem.F.type_str_join mt_join pe_str (pv 1)) pe_str)))), ?_⟩
    refine ⟨by show 0 ≤ sizeLine; exact Nat.zero_le _, fun L nL => ?_⟩
    have s0 := same_new (o := .lst []) nL
    have hL0 := upd_same (H := H) (a := L) (o := .lst [])
    have d0 := da.same s0
    have aL : a ≠ L := ne_of_none da.1 nL
    have kl : kvs.length ≤ m := da.2.2.1
    have ln : (kvs.map fun p => nmOf p.1).length = kvs.length := List.length_map ..
    refine ⟨_, rfl, a, kvs, (kvs.map fun p => nmOf p.1), rfl, .inl d0.1, keys_nm d0, by rw [ln]; omega, fun ys p perm srt np => ?_⟩
    have s1 := same_new (o := .lst (ys.map V.str)) np
    have hp := upd_same (H := upd H L (.lst [])) (a := p) (o := .lst (ys.map V.str))
    have d1 := d0.same s1
    have hL1 := s1 _ _ hL0
    have S1 := s0.trans s1
    have pL : p ≠ L := fun z => by
      rw [z, upd_same] at np
      cases np
    obtain ⟨sk, yl⟩ := sk_of da perm srt
    generalize upd (upd H L (.lst [])) p (.lst (ys.map V.str)) = H1 at hp d1 hL1 S1 ⊢
    clear s1 s0 hL0 d0 np
    refine ⟨p, rfl, ⟨_, SqL.of hp⟩, for_list (K := K) (a := p) (xs := ys.map V.str) (fun i σ H' => ∃ (y2 y3 y4 : Option V) (ws : List Str), σ = [some (.ref a), some (.ref L), y2, y3, y4] ∧ H' L = some (.lst (ws.map V.str)) ∧ ws.map tl = pcs f (ys.take i) ∧ ∀ b o, b ≠ L → H1 b = some o → H' b = some o)
      ⟨none, none, none, [], rfl, hL1, rfl, fun _ _ _ e => e⟩ (fun i σ H' _ ⟨_, _, _, _, _, _, _, w⟩ => SqL.of (w _ _ pL hp)) ?_ ?_⟩
    · rintro i yv σ H2 hy ⟨y2, y3, y4, ws, rfl, hL2, ew, kp⟩
      obtain ⟨y, hyi, rfl⟩ : ∃ y, ys[i]? = some y ∧ yv = .str y := by
        rw [List.getElem?_map] at hy
        cases e : ys[i]? with
        | none =>
          rw [e] at hy
          cases hy
        | some y =>
          rw [e] at hy
          exact ⟨y, rfl, (Option.some.inj hy).symm⟩
      obtain ⟨oy, r, ev, er⟩ := nm_of_mem d1 (perm.mem_iff.mp (List.mem_of_getElem? hyi))
      have a2 := kp _ _ aL d1.1
      have rL : r ≠ L := fun z => by
        rw [z, hL1] at er
        cases er
      have r2 := kp _ _ rL er
      have dg : DGet H2 a (kV (.inr y)) (some (.ref r)) := .inl ⟨kvs, .inr y, .inl a2, rfl, ev.symm⟩
      have il : i < ys.length := (List.getElem?_eq_some_iff.mp hyi).1
      have tk : ys.take (i + 1) = ys.take i ++ [y] := by
        rw [List.take_add_one, hyi]
        rfl
      have wl : ws.length = i := by
        have z := congrArg List.length ew
        rw [List.length_map, pcs_len, List.length_take] at z
        omega
      refine ⟨_, rfl, _, rfl, a, _, rfl, dg, r, _, 0, _, rfl, rfl, SqT.of r2, atI_nat (j := 0) rfl, (f (.inr y)).1, 0, rfl, rfl, ?_⟩
      refine ⟨_, rfl, _, rfl, _, rfl, a, _, rfl, dg, y, r, f (.inr y), rfl, oy, FrT.of r2, g _, fun H4 t s4 et => ?_⟩
      have hL4 := s4 _ _ hL2
      have tlen : t.length ≤ 1154 := by
        rw [len_tl, et]
        exact trm_len oy (g _)
      have ts : t.length ≤ sizeLine := sz5 (by omega)
      have e0 : (Str.empty).length = 0 := by decide
      have l1 : (("-" : Str)).length = 1 := by decide
      have l2 : (("- " : Str)).length = 2 := by decide
      have l3 : (("+ " : Str)).length = 2 := by decide
      have wz : (ws.map V.str).length < sizeLine := by
        rw [List.length_map]
        exact small1000 (by omega)
      have fin : ∀ z : Str, (ws ++ [z]).map tl = pcs f (ys.take (i + 1)) → ∃ (y2 y3 y4 : Option V) (ws' : List Str), [some (V.ref a), some (V.ref L), some (V.str y), some (V.bl (decide ((f (.inr y)).1 < 0))), some (V.str t)] = [some (.ref a), some (.ref L), y2, y3, y4] ∧ (upd H4 L (.lst (ws.map V.str ++ [.str z]))) L = some (.lst (ws'.map V.str)) ∧ ws'.map tl = pcs f (ys.take (i + 1)) ∧ ∀ b o, b ≠ L → H1 b = some o → (upd H4 L (.lst (ws.map V.str ++ [.str z]))) b = some o := fun z ez => by
        refine ⟨_, _, _, ws ++ [z], rfl, ?_, ez, fun b o nb e => ?_⟩
        · rw [upd_same, List.map_append]
          rfl
        · rw [upd_ne nb]
          exact s4 _ _ (kp _ _ nb e)
      refine ⟨_, rfl, _, .inl ⟨_, SqL.of hL4, rfl⟩, ?_⟩
      cases ws with
      | nil =>
        have i0 : i = 0 := by rw [← wl]; rfl
        have t1 : ys.take (i + 1) = [y] := by
          rw [tk, i0]
          rfl
        refine iteF ⟨.ref L, rfl, .inl ⟨rfl, _, SqL.of hL4⟩, _, rfl, _, rfl, ite2 (fun c => ?_) (fun c => ?_)⟩
        · have c' : (f (.inr y)).1 < 0 := of_decide_eq_true c
          refine ⟨_, rfl, ?_, _, rfl, .inl ⟨t, rfl, ts, _, rfl, ?_, L, _, _, rfl, rfl, hL4, wz, fin _ ?_⟩⟩
          · simp only [len_app]; exact sz5 (by omega)
          · simp only [len_app]; exact sz5 (by omega)
          · rw [t1]
            show [tl (Str.empty ++ "-" ++ t)] = [headL f y]
            rw [empty_app, tl_append, tl_minus, et]
            unfold headL
            rw [if_pos c']
        · have c' : ¬ (f (.inr y)).1 < 0 := fun z => c (decide_eq_true z)
          refine ⟨_, rfl, L, _, _, rfl, rfl, hL4, wz, fin t ?_⟩
          rw [t1]
          show [tl t] = [headL f y]
          rw [et]
          unfold headL
          rw [if_neg c']
          rfl
      | cons w0 wr =>
        have ne : ys.take i ≠ [] := fun z => by
          have z2 := congrArg List.length z
          rw [List.length_take] at z2
          have z3 : ys.take i = [] := z
          have z4 : (w0 :: wr).length = i := wl
          rw [List.length_cons] at z4
          rw [List.length_nil] at z2
          omega
        refine iteT ⟨.ref L, rfl, .inl ⟨rfl, _, SqL.of hL4⟩, _, rfl, _, rfl, ite2 (fun c => ?_) (fun c => ?_)⟩
        · have c' : (f (.inr y)).1 < 0 := of_decide_eq_true c
          refine ⟨_, rfl, ?_, _, rfl, .inl ⟨t, rfl, ts, _, rfl, ?_, L, _, _, rfl, rfl, hL4, wz, fin _ ?_⟩⟩
          · simp only [len_app]; exact sz5 (by omega)
          · simp only [len_app]; exact sz5 (by omega)
          · rw [tk, pcs_snoc ne, List.map_append, ew]
            show _ ++ [tl (Str.empty ++ "- " ++ t)] = _
            rw [empty_app, tl_append, tl_minusb, et]
            unfold sgC
            rw [if_pos c']
            rfl
        · have c' : ¬ (f (.inr y)).1 < 0 := fun z => c (decide_eq_true z)
          refine ⟨_, rfl, ?_, _, rfl, .inl ⟨t, rfl, ts, _, rfl, ?_, L, _, _, rfl, rfl, hL4, wz, fin _ ?_⟩⟩
          · simp only [len_app]; exact sz5 (by omega)
          · simp only [len_app]; exact sz5 (by omega)
          · rw [tk, pcs_snoc ne, List.map_append, ew]
            show _ ++ [tl (Str.empty ++ "+ " ++ t)] = _
            rw [empty_app, tl_append, tl_plusb, et]
            unfold sgC
            rw [if_neg c']
            rfl
    · rintro σ H2 ⟨y2, y3, y4, ws, rfl, hL2, ew, kp⟩
      have et : ys.take (ys.map V.str).length = ys := by
        rw [List.length_map]
        exact List.take_length
      rw [et] at ew
      have S2 : Same H H2 := fun b o e => kp _ _ (ne_of_none e nL) (S1 _ _ e)
      have wl : ws.length = ys.length := by
        have z := congrArg List.length ew
        rw [List.length_map, pcs_len] at z
        exact z
      refine ⟨_, rfl, _, .inl ⟨_, SqL.of hL2, rfl⟩, ?_⟩
      cases ws with
      | nil =>
        have y0 : ys = [] := List.length_eq_zero_iff.mp (by rw [← wl]; rfl)
        refine iteF (q _ ys _ S2 sk yl ?_)
        rw [y0]
        show tl ("0" : Str) = [48]
        decide
      | cons w0 wr =>
        have ne : ys ≠ [] := fun z => by
          rw [z] at wl
          cases wl
        refine iteT ⟨⟨_, rfl⟩, _, rfl, _, L, w0 :: wr, rfl, rfl, .inl (SqL.of hL2), ?_, q _ ys _ S2 sk yl ?_⟩
        · have z := sum_le (fun t : Str => t.length) 1156 (w0 :: wr) fun t ht => by
            rw [len_tl]
            refine pcs_mem g sk.2.2.2 (tl t) ?_
            rw [← ew]
            exact List.mem_map.mpr ⟨t, ht, rfl⟩
          have e1 : ((" " : Str)).length = 1 := by decide
          rw [e1, wl] at *
          omega
        · rw [join_eq, tl_join, tl_blank, ew]
          exact pcs_join ne
end
end SS
namespace SS
open PySem PySem.Spec PyProof.Rows L2 TL NumText
noncomputable def rowL (f : Key → Int × Int) (ys : List Str) (srt : Str) (num : Int × Int) : List Nat := sumL f ys ++ 32 :: (tl srt ++ 32 :: fL num)
theorem sorts5 {s : Str} (h : s ∈ sorts) : s = "is" ∨ s = "most" ∨ s = "least" ∨ s = "below" ∨ s = "above" := by
  simpa [sorts] using h
theorem sort_len {s : Str} (h : s ∈ sorts) : s.length ≤ 5 := by
  rcases sorts5 h with rfl | rfl | rfl | rfl | rfl <;> decide
theorem fL_one {N : Int × Int} (h0 : 0 ≤ N.1) : fL N = [49] ↔ N = (1, 1) := by
  obtain ⟨n, d⟩ := N
  obtain ⟨n, rfl⟩ : ∃ k : Nat, n = (k : Int) := ⟨n.toNat, by simp only at h0; omega⟩
  have e1 : numL 1 = [49] := by decide
  refine ⟨fun e => ?_, fun e => by rw [e]; decide⟩
  unfold fL at e
  by_cases c : d = 1
  · rw [if_pos c] at e
    have e' : zL (n : Int) = [49] := e
    rw [zL_nat, ← e1] at e'
    rw [numL_inj e', c]
    rfl
  · rw [if_neg c] at e
    have z := congrArg (fun l => 47 ∈ l) e
    have z2 : 47 ∈ zL (n : Int) ++ 47 :: zL d := List.mem_append_right _ List.mem_cons_self
    have z3 : 47 ∈ [49] := by
      have : zL (n : Int) ++ 47 :: zL d = [49] := e
      rw [this] at z2
      exact z2
    exact absurd (List.mem_singleton.mp z3) (by decide)
theorem at2 (b : Bool) (x y : Str) : atI [V.str x, V.str y] (if b = true then 1 else 0) = some (.str (if b = true then y else x)) := by
  cases b <;> rfl
theorem str_nil {t : Str} : V.str t = V.str "" ↔ tl t = [] := by
  have e : tl ("" : Str) = [] := by decide
  exact ⟨fun z => by rw [V.str.inj z, e], fun z => congrArg V.str (ext_tl (z.trans e.symm))⟩
section
variable {P : Program} {w : World} {K : PySem.W.Frag} {mg : Str → Option Value} {base : Heap}
/-! ### row_text -/
def spRwx (K : PySem.W.Frag) : Sp := fun vs H Q _ => ∃ (r a : Addr) (kvs : List (Key × V)) (f : Key → Int × Int) (srt : Str) (num : Int × Int) (m : Nat), vs = [.ref r] ∧ RowT K m H r a kvs f srt num ∧ m ≤ 20 ∧ (∀ k, Fb (f k)) ∧ Fb num ∧ ∀ H' ys s, Same H H' → SK f ys → ys.length ≤ m → tl s = rowL f ys srt num → Q (.str s) H'
/-! ### _law_sum_text, _law_row_text -/
theorem scLSmx : FnScope ["_law_one", "_law_text", "_law_key", "_law_top", "_law_under", "_law_size", "_law_lead"] ["_law_one"] (defScope sLSmx) := ⟨rfl, rfl, rfl, by decide +kernel, rfl, by decide +kernel, by decide +kernel⟩
set_option maxHeartbeats 2000000 in
theorem ok_lsmx {f' : Addr} {fd : FuncData} (F : Fun K "_law_sum_text" "_law_sum_text" sLSmx f' fd) (mso : mg "sorted" = none) (ma : mg "abs" = none) (mi : mg "int" = none) (ft : Cl P w K mg base CX0 1 "_law_fraction_text" (spFtx K) []) : FnOk P w K mg base CX0 2 f' fd ["_law_one"] spSmx := by
  refine F.ok scLSmx (fun vs H Q E h => ?_) (fun cdv A outer s H vs Q E hr h => ?_)
  · obtain ⟨_, _, _, _, rfl, _⟩ := h
    rfl
  · obtain ⟨a, kvs, f, m, rfl, da, hm, g, q⟩ := h
    have hu := hu_of hr
    refine ⟨_, pss_cons (ps_set (i := 1) scLSmx.nd rfl (.inl rfl) pe_str)
      (pss_cons (ps_for PassesOwn.never rfl (pi_list (pe_callB (call_sortedD rfl) (by rfl) mso (by decide +kernel) (pa_cons (pv 0) pa_nil))) (pg_name (i := 2) scLSmx.nd rfl (.inl rfl))
        (pss_cons (ps_asg (pe_dget hu (pv 0) (pv 2) (fun _ _ => rfl)) (pg_tup rfl (pgs_cons (pg_name (i := 3) scLSmx.nd rfl (.inl rfl)) (pgs_cons (pg_name (i := 4) scLSmx.nd rfl (.inl rfl)) pgs_nil))))
        (pss_cons (ps_set (i := 5) scLSmx.nd rfl (.inl rfl) (pe_op op_add_str (pc0 ft hr (by decide) (pa_cons (pe_tup (pa_cons (pe_callB call_abs (by rfl) ma boot_abs (pa_cons (pv 3) pa_nil)) (pa_cons (pv 4) pa_nil))) pa_nil)) pe_str))
        (pss_cons (ps_if (pt_cmpR op_eq (pv 5) pe_str (nomark _)) (pss_one (ps_set (i := 5) scLSmx.nd rfl (.inl rfl) pe_str)) pss_nil)
        (pss_cons (ps_set (i := 6) scLSmx.nd rfl (.inl rfl) (pe_ix ix_list (pe_lst (pa_cons pe_str (pa_cons pe_str pa_nil))) (pe_callTy call_int1 (by rfl) mi (by decide +kernel) (pa_cons (pe_cmpR op_lt (pv 3) pe_int (nomark _)) pa_nil)) (fun _ _ => rfl)))
        (pss_cons (ps_if (pt_cmpR op_ne (pv 1) pe_str (nomark _)) (pss_one (ps_set (i := 6) scLSmx.nd rfl (.inl rfl) (pe_ix ix_list (pe_lst (pa_cons pe_str (pa_cons pe_str pa_nil))) (pe_callTy call_int1 (by rfl) mi (by decide +kernel) (pa_cons (pe_cmpR op_lt (pv 3) pe_int (nomark _)) pa_nil)) (fun _ _ => rfl)))) pss_nil)
        (pss_one (ps_set (i := 1) scLSmx.nd rfl (.inl rfl) (pe_op op_add_str (pe_op op_add_str (pe_op op_add_str (pv 1) (pv 6)) (pv 5)) (pv 2))))))))))
      (pss_cons (ps_if (pt_cmpR op_eq (pv 1) pe_str (nomark _)) (pss_one (ps_ret pe_str)) pss_nil)
      (pss_one (ps_ret (pv 1))))), ?_⟩
    have kl : kvs.length ≤ m := da.2.2.1
    have ln : (kvs.map fun p => nmOf p.1).length = kvs.length := List.length_map ..
    refine ⟨_, rfl, a, kvs, (kvs.map fun p => nmOf p.1), rfl, .inl da.1, keys_nm da, by rw [ln]; omega, fun ys p perm srt np => ?_⟩
    have s1 := same_new (o := .lst (ys.map V.str)) np
    have hp := upd_same (H := H) (a := p) (o := .lst (ys.map V.str))
    have d1 := da.same s1
    obtain ⟨sk, yl⟩ := sk_of da perm srt
    generalize upd H p (.lst (ys.map V.str)) = H1 at hp d1 s1 ⊢
    refine ⟨p, rfl, ⟨_, SqL.of hp⟩, for_list (K := K) (a := p) (xs := ys.map V.str) (fun i σ H' => ∃ (y2 y3 y4 y5 y6 : Option V) (t : Str), σ = [some (.ref a), some (.str t), y2, y3, y4, y5, y6] ∧ Same H1 H' ∧ tl t = if i = 0 then [] else sumL f (ys.take i))
      ⟨none, none, none, none, none, "", rfl, Same.refl _, by rw [if_pos rfl]; decide⟩ (fun i σ H' _ ⟨_, _, _, _, _, _, _, w, _⟩ => SqL.of (w _ _ hp)) ?_ ?_⟩
    · rintro i yv σ H2 hy ⟨y2, y3, y4, y5, y6, t, rfl, s2, et⟩
      obtain ⟨y, hyi, rfl⟩ : ∃ y, ys[i]? = some y ∧ yv = .str y := by
        rw [List.getElem?_map] at hy
        cases e : ys[i]? with
        | none =>
          rw [e] at hy
          cases hy
        | some y =>
          rw [e] at hy
          exact ⟨y, rfl, (Option.some.inj hy).symm⟩
      obtain ⟨oy, r, ev, er⟩ := nm_of_mem d1 (perm.mem_iff.mp (List.mem_of_getElem? hyi))
      have a2 := s2 _ _ d1.1
      have r2 := s2 _ _ er
      have dg : DGet H2 a (kV (.inr y)) (some (.ref r)) := .inl ⟨kvs, .inr y, .inl a2, rfl, ev.symm⟩
      have il : i < ys.length := (List.getElem?_eq_some_iff.mp hyi).1
      have tk : ys.take (i + 1) = ys.take i ++ [y] := by
        rw [List.take_add_one, hyi]
        rfl
      have tlen : t.length ≤ 23141 := by
        rw [len_tl, et]
        split
        · exact Nat.zero_le _
        · have z := sum_len g (ys := ys.take i) fun z hz => sk.2.2.2 z (List.mem_of_mem_take hz)
          rw [List.length_take] at z
          omega
      have ly := nm_len oy
      have gy := g (.inr y)
      refine ⟨_, rfl, _, rfl, a, _, rfl, dg, r, _, rfl, SqT.of r2, rfl, _, _, rfl, _, _, rfl, rfl, ?_⟩
      refine ⟨_, rfl, _, rfl, ?_⟩
      rw [abs_nat]
      refine ⟨_, rfl, small2, fun T nT => ?_⟩
      have sT := same_new (o := .tup [.int ((f (.inr y)).1.natAbs : Int), .int (f (.inr y)).2]) nT
      have hT := upd_same (H := H2) (a := T) (o := .tup [.int ((f (.inr y)).1.natAbs : Int), .int (f (.inr y)).2])
      replace s2 := s2.trans sT
      generalize upd H2 T (.tup [.int ((f (.inr y)).1.natAbs : Int), .int (f (.inr y)).2]) = H3 at hT s2 ⊢
      have fT : FrT K H3 T (szN (f (.inr y))).1 (szN (f (.inr y))).2 := FrT.of hT
      have lf : (ftx (szN (f (.inr y))).1 (szN (f (.inr y))).2).length ≤ 1147 := by
        rw [len_tl, tl_ftx]
        exact fL_len (fb_sz gy)
      have e1 : ((" " : Str)).length = 1 := by decide
      refine ⟨T, szN (f (.inr y)), rfl, fT, fb_sz gy, _, " ", rfl, rfl, sz5 (by omega), ?_⟩
      have ez : tl (ftx (szN (f (.inr y))).1 (szN (f (.inr y))).2 ++ " ") = fL (szN (f (.inr y))) ++ [32] := by
        rw [tl_append, tl_ftx, tl_blank]
      have zl : (ftx (szN (f (.inr y))).1 (szN (f (.inr y))).2 ++ " ").length ≤ 1148 := by
        rw [len_app]
        omega
      generalize ftx (szN (f (.inr y))).1 (szN (f (.inr y))).2 ++ " " = z0 at ez zl ⊢
      refine' mid (C := _) (Inv := fun σ H' => ∃ (y6 : Option V) (z : Str), H' = H3 ∧ σ = [some (.ref a), some (.str t), some (.str y), some (.int (f (.inr y)).1), some (.int (f (.inr y)).2), some (.str z), y6] ∧ z.length ≤ 1148 ∧ tl z ++ tl y = trmL y (f (.inr y))) (fun key => ?main) ?cont
      case main =>
        have t1 : tl ("1 " : Str) = [49, 32] := by decide
        have eq1 : V.str z0 = V.str "1 " ↔ szN (f (.inr y)) = (1, 1) := by
          rw [← fL_one (N := szN (f (.inr y))) (by show (0 : Int) ≤ ((f (.inr y)).1.natAbs : Int); omega)]
          refine ⟨fun z => ?_, fun z => ?_⟩
          · have z2 := congrArg tl (V.str.inj z)
            rw [ez, t1] at z2
            exact List.append_cancel_right (z2.trans (by rfl : ([49, 32] : List Nat) = [49] ++ [32]))
          · refine congrArg V.str (ext_tl ?_)
            rw [ez, t1, z]
            rfl
        refine ⟨_, rfl, rfl, _, rfl, ite2 (fun e => ?ya) (fun e => ?yb)⟩
        case yb =>
          have e' : szN (f (.inr y)) ≠ (1, 1) := fun z => e (decide_eq_true (eq1.mpr z))
          refine key _ _ ⟨_, z0, rfl, rfl, zl, ?_⟩
          unfold trmL
          rw [if_neg e', ez, List.append_assoc]
          rfl
        case ya =>
          have e' := eq1.mp (of_decide_eq_true e)
          refine key _ _ ⟨_, "", rfl, rfl, by decide, ?_⟩
          unfold trmL
          rw [if_pos e']
          rfl
      case cont =>
        rintro σ H' ⟨y6, z, rfl, rfl, zl, ez⟩
        refine ⟨by show 2 ≤ sizeLine; decide, fun L nL => ⟨_, rfl, (f (.inr y)).1, 0, rfl, rfl, .inr ⟨_, rfl, L, _, _, _, rfl, rfl, SqL.of upd_same, at2 _ _ _, ?_⟩⟩⟩
        have sL := same_new (o := .lst [.str "", .str "-"]) nL
        replace s2 := s2.trans sL
        generalize upd H' L (.lst [.str "", .str "-"]) = H4 at s2 ⊢
        have tm : tl ("-" : Str) = [45] := by decide
        have t0 : tl ("" : Str) = [] := by decide
        have tp : tl (" + " : Str) = [32, 43, 32] := by decide
        have tn : tl (" - " : Str) = [32, 45, 32] := by decide
        refine ⟨_, rfl, rfl, _, rfl, ite2 (fun e => ?_) (fun e => ?_)⟩
        · have ne : tl t ≠ [] := fun w' => by
            have e' : (!decide (V.str t = V.str "")) = true := e
            rw [decide_eq_true (str_nil.mpr w')] at e'
            cases e'
          have i0 : i ≠ 0 := fun w' => ne (by rw [et, if_pos w'])
          rw [if_neg i0] at et
          have nt : ys.take i ≠ [] := fun w' => by
            have w2 := congrArg List.length w'
            rw [List.length_take, List.length_nil] at w2
            omega
          refine ⟨by show 2 ≤ sizeLine; decide, fun L2 nL2 => ⟨_, rfl, (f (.inr y)).1, 0, rfl, rfl, .inr ⟨_, rfl, L2, _, _, _, rfl, rfl, SqL.of upd_same, at2 _ _ _, ?_⟩⟩⟩
          have sL2 := same_new (o := .lst [.str " + ", .str " - "]) nL2
          have ll : ∀ b : Bool, (if b = true then (" - " : Str) else " + ").length = 3 := fun b => by cases b <;> decide
          refine ⟨_, rfl, _, rfl, t, _, rfl, rfl, ?_, _, rfl, _, z, rfl, rfl, ?_, _, rfl, _, y, rfl, rfl, ?_, ?_⟩
          · rw [ll]; exact sz5 (by omega)
          · rw [len_app, ll]; exact sz5 (by omega)
          · rw [len_app, len_app, ll]; exact sz5 (by omega)
          · refine ⟨_, _, _, _, _, _, rfl, s2.trans sL2, ?_⟩
            rw [if_neg (Nat.succ_ne_zero i), tk, sumL_snoc nt, tl_append, tl_append, tl_append, et, List.append_assoc, List.append_assoc, ez]
            congr 1
            unfold sgC
            by_cases c : (f (.inr y)).1 < 0
            · rw [decide_eq_true c, if_pos rfl, if_pos c, tn]
              rfl
            · rw [decide_eq_false c, if_neg Bool.false_ne_true, if_neg c, tp]
              rfl
        · have ne : tl t = [] := Classical.byContradiction fun w' => e (by
            show (!decide (V.str t = V.str "")) = true
            rw [decide_eq_false fun w2 => w' (str_nil.mp w2)]
            rfl)
          have i0 : i = 0 := Classical.byContradiction fun w' => by
            rw [if_neg w'] at et
            have w2 : ys.take i ≠ [] := fun w3 => by
              have w4 := congrArg List.length w3
              rw [List.length_take, List.length_nil] at w4
              omega
            cases hq : ys.take i with
            | nil => exact w2 hq
            | cons u us =>
              rw [hq, ne] at et
              have hu' := trm_head (sk.2.2.2 u (List.mem_of_mem_take (by rw [hq]; exact List.mem_cons_self))) (f (.inr u))
              obtain ⟨cc, rr, e3, _⟩ := hu'
              have e4 : ([] : List Nat) = headL f u ++ restL f us := et
              unfold headL at e4
              rw [e3] at e4
              have e5 := congrArg List.length e4
              simp only [List.length_append, List.length_cons, List.length_nil] at e5
              omega
          have ll : ∀ b : Bool, (if b = true then ("-" : Str) else "").length ≤ 1 := fun b => by cases b <;> decide
          have l1 := ll (decide ((f (.inr y)).1 < 0))
          refine ⟨_, rfl, _, rfl, t, _, rfl, rfl, sz5 (by omega), _, rfl, _, z, rfl, rfl, ?_, _, rfl, _, y, rfl, rfl, ?_, ?_⟩
          · rw [len_app]; exact sz5 (by omega)
          · rw [len_app, len_app]; exact sz5 (by omega)
          · refine ⟨_, _, _, _, _, _, rfl, s2, ?_⟩
            rw [if_neg (Nat.succ_ne_zero i), tk, i0, tl_append, tl_append, tl_append, ne, List.nil_append, List.append_assoc, ez]
            show _ = headL f y ++ []
            unfold headL
            rw [List.append_nil]
            congr 1
            by_cases c : (f (.inr y)).1 < 0
            · rw [decide_eq_true c, if_pos rfl, if_pos c, tm]
            · rw [decide_eq_false c, if_neg Bool.false_ne_true, if_neg c, t0]
    · rintro σ H2 ⟨y2, y3, y4, y5, y6, t, rfl, s2, et⟩
      have el : (ys.map V.str).length = ys.length := List.length_map ..
      rw [el, List.take_length] at et
      have S2 := s1.trans s2
      refine ⟨_, rfl, rfl, _, rfl, ite2 (fun e => ?_) (fun e => ?_)⟩
      · have ne := str_nil.mp (of_decide_eq_true e)
        refine q _ ys _ S2 sk yl ?_
        cases ys with
        | nil =>
          show tl ("0" : Str) = [48]
          decide
        | cons u us =>
          exfalso
          rw [if_neg (by simp), ne] at et
          obtain ⟨cc, rr, e3, _⟩ := trm_head (sk.2.2.2 u List.mem_cons_self) (f (.inr u))
          have e4 : ([] : List Nat) = headL f u ++ restL f us := et
          unfold headL at e4
          rw [e3] at e4
          have e5 := congrArg List.length e4
          simp only [List.length_append, List.length_cons, List.length_nil] at e5
          omega
      · have ne : tl t ≠ [] := fun w' => e (decide_eq_true (str_nil.mpr w'))
        refine ⟨_, rfl, q _ ys _ S2 sk yl ?_⟩
        by_cases c : ys.length = 0
        · exact absurd (by rw [et, if_pos c]) ne
        · rw [et, if_neg c]
def spLRwx (K : PySem.W.Frag) : Sp := spRwx K
theorem scLRwx : FnScope ["_law_row"] ["_law_row"] (defScope sLRwx) := ⟨rfl, rfl, rfl, by decide +kernel, rfl, by decide +kernel, by decide +kernel⟩
theorem ok_lrwx {f' : Addr} {fd : FuncData} (F : Fun K "_law_row_text" "_law_row_text" sLRwx f' fd) (sx : Cl P w K mg base CX0 2 "_law_sum_text" spSmx []) (ft : Cl P w K mg base CX0 1 "_law_fraction_text" (spFtx K) []) : FnOk P w K mg base CX0 3 f' fd ["_law_row"] (spRwx K) := by
  refine F.ok scLRwx (fun vs H Q E h => ?_) (fun cdv A outer s H vs Q E hr h => ?_)
  · obtain ⟨_, _, _, _, _, _, _, rfl, _⟩ := h
    rfl
  · obtain ⟨r, a, kvs, f, srt, num, m, rfl, ⟨pn, h1, da, h3, h4⟩, hm, g, gn, q⟩ := h
    refine ⟨_, pss_one (ps_ret (pe_op op_add_str (pe_op op_add_str (pe_op op_add_str (pe_op op_add_str (pc0 sx hr (by decide) (pa_cons (pe_ix ix_tup (pv 0) pe_int (fun _ _ => rfl)) pa_nil)) pe_str) (pe_ix ix_tup (pv 0) pe_int (fun _ _ => rfl))) pe_str) (pc0 ft hr (by decide) (pa_cons (pe_ix ix_tup (pv 0) pe_int (fun _ _ => rfl)) pa_nil)))), ?_⟩
    have e1 : ((" " : Str)).length = 1 := by decide
    have e2 := sort_len h4
    refine ⟨_, rfl, r, _, 0, _, rfl, rfl, SqT.of h1, atI_nat (j := 0) rfl, a, kvs, f, m, rfl, da, hm, g, fun H1 ys t s1 sk yl et => ?_⟩
    have tlen : t.length ≤ 23141 := by
      rw [len_tl, et]
      have z := sum_len g sk.2.2.2
      omega
    have lf : (ftx num.1 num.2).length ≤ 1147 := by
      rw [len_tl, tl_ftx]
      exact fL_len gn
    refine ⟨t, " ", rfl, rfl, sz5 (by omega), _, rfl, r, _, 1, _, rfl, rfl, SqT.of (s1 _ _ h1), atI_nat (j := 1) rfl, _, srt, rfl, rfl, ?_, _, " ", rfl, rfl, ?_, _, rfl, r, _, 2, _, rfl, rfl, SqT.of (s1 _ _ h1), atI_nat (j := 2) rfl, pn, num, rfl, h3.new s1, gn, _, _, rfl, rfl, ?_, q _ ys _ s1 sk yl ?_⟩
    · simp only [len_app]; exact sz5 (by omega)
    · simp only [len_app]; exact sz5 (by omega)
    · simp only [len_app]; exact sz5 (by omega)
    · rw [tl_append, tl_append, tl_append, tl_append, et, tl_blank, tl_ftx]
      unfold rowL
      simp
end
end SS
namespace SS
open PySem PySem.Spec PyProof.Rows L2 TL NumText
def figV : Option Nat → V
  | some n => .int (n : Int)
  | none => .non
section
variable {P : Program} {w : World} {K : PySem.W.Frag} {mg : Str → Option Value} {base : Heap}
/-! ### _law_figures -/
def spFigs : Sp := fun vs H Q _ => ∃ x : Str, vs = [.str x] ∧ x.length ≤ 1000 ∧ ∀ H', Same H H' → Q (figV (figs (tl x))) H'
theorem scFigs : FnScope ["_law_word", "_law_sign_here"] ["_law_word"] (defScope sFigs) := ⟨rfl, rfl, rfl, by decide +kernel, rfl, by decide +kernel, by decide +kernel⟩
theorem all_bl (l : List Nat) (p : Nat → Bool) : ((l.map p).map V.bl).all (fun v => decide (v = V.bl true)) = l.all p := by
  induction l with
  | nil => rfl
  | cons c r ih =>
    rw [List.map_cons, List.map_cons, List.all_cons, List.all_cons, ih]
    cases p c <;> rfl
set_option maxHeartbeats 2000000 in
theorem ok_figs {f : Addr} {fd : FuncData} {k : Nat} (F : Fun K "_law_figures" "_law_figures" sFigs f fd) (ml : mg "len" = none) (ma : mg "all" = none) (mi : mg "int" = none) : FnOk P w K mg base CX0 (k + 1) f fd ["_law_word"] spFigs := by
  refine F.ok scFigs (fun vs H Q E h => ?_) (fun cdv A outer s H vs Q E hr h => ?_)
  · obtain ⟨_, rfl, _⟩ := h
    rfl
  · obtain ⟨x, rfl, hx, q⟩ := h
    refine ⟨_, pss_cons (ps_if (PW.pt (pw_or (pt_not (pt_chain op_lt op_lt pe_int (pe_callB call_len (by rfl) ml PySem.boot_len (pa_cons (pv 0) pa_nil)) pe_int))
        (pw_or1 (pt_not (pt_val (pe_callB (cr_all rfl) (by rfl) ma boot_all (pa_cons
        (pe_lc (own := [("_law_sign_here", 1)]) (g := gName 1) (tt := tYes) rfl scFigs.nd (pi_str (pv 0)) (blkOk_by (by rfl)) (fun _ _ _ _ _ => pg_name (i := 1) scFigs.nd rfl (Or.inl rfl)) (fun _ _ _ _ _ => pts_nil)
          (fun _ _ _ _ _ => pe_cmpR op_in_sign (pv 1) pe_str rfl)) pa_nil))))))) (pss_one (ps_ret pe_non)) pss_nil)
      (pss_cons (ps_if (PW.pt (pw_and (pt_cmpR op_eq (pe_ix ix_str (pv 0) pe_int (fun _ _ => rfl)) pe_str (nomark _)) (pw_and1 (pt_cmpR op_gt (pe_callB call_len (by rfl) ml PySem.boot_len (pa_cons (pv 0) pa_nil)) pe_int (nomark _))))) (pss_one (ps_ret pe_non)) pss_nil)
      (pss_one (ps_ret (pe_callTy call_int_str (by rfl) mi (by decide +kernel) (pa_cons (pv 0) pa_nil))))), ?_⟩
    have el : x.length = (tl x).length := len_tl x
    have xs : x.length ≤ sizeLine := Nat.le_of_lt (small1000 hx)
    have bad : (wokB (tl x) && !leadB (tl x)) = false → ∀ H', Same H H' → Q .non H' := fun z H' s' => by
      have y := q H' s'
      unfold figs at y
      rw [z] at y
      exact y
    have bad1 : ¬ (1 ≤ (tl x).length ∧ (tl x).length ≤ 30 ∧ AllDigits (tl x)) → ∀ H', Same H H' → Q .non H' := fun z => bad (by
      rw [Bool.eq_false_iff.mpr fun y => z (wokB_iff.mp y)]
      rfl)
    refine ⟨_, rfl, _, x.length, rfl, ⟨xs, rfl⟩, 0, (x.length : Int), rfl, rfl, _, rfl, ite2 (fun e1 => ?_) (fun e1 => ?_)⟩
    · have c1 : (0 : Int) < (x.length : Int) := of_decide_eq_true e1
      refine ⟨(x.length : Int), 31, rfl, rfl, _, rfl, ?_⟩
      by_cases c2 : (x.length : Int) < 31
      · rw [decide_eq_true c2]
        refine iteF ?_
        refine ⟨_, rfl, x, rfl, fun D nD => lc_it walk_str (fun i H' => H' D = some (.lst (((x.cps.toList.take i).map fun ch => decide (ch ∈ ("0123456789" : Str).cps.toList)).map V.bl)) ∧ ∀ b o, b ≠ D → H b = some o → H' b = some o)
          ⟨upd_same, fun b o nb e => by rw [upd_ne nb]; exact e⟩ (fun _ _ _ _ => trivial) ?_ ?_⟩
        · rintro i y H2 H' hi ⟨w1, w2⟩ ⟨rfl, ch, hc, rfl⟩
          have hc' : x.cps.toList[i]? = some ch := by
            rw [Array.getElem?_toList]
            exact hc
          refine ⟨rfl, _, rfl, ch, _, rfl, rfl, _, w1, ?_, ?_, ?_⟩
          · rw [List.length_map, List.length_map]
            have l2 := List.length_take_le' i x.cps.toList
            have : x.cps.toList.length = (tl x).length := rfl
            exact small1000 (by omega)
          · rw [upd_same, List.take_add_one, hc', List.map_append, List.map_append]
            rfl
          · intro b o nb e
            rw [upd_ne nb]
            exact w2 b o nb e
        · rintro H' ⟨w1, w2⟩
          have sm : Same H H' := fun b o e => w2 b o (ne_of_none e nD) e
          have et : x.cps.toList.take x.cps.size = x.cps.toList := by
            rw [← Array.length_toList]
            exact List.take_length
          rw [et] at w1
          have ed : (x.cps.toList.map fun ch => decide (ch ∈ ("0123456789" : Str).cps.toList)).all id = digB (tl x) := by
            rw [List.all_map]
            unfold digB
            congr 1
            funext c
            show decide (c ∈ ("0123456789" : Str).cps.toList) = _
            rw [Bool.eq_iff_iff, Bool.and_eq_true, decide_eq_true_iff, decide_eq_true_iff, decide_eq_true_iff]
            exact fig_mem c
          refine ⟨D, _, rfl, SqL.of w1, ?_⟩
          rw [ed]
          cases c3 : digB (tl x) with
          | false => exact ⟨_, rfl, iteT (bad1 (fun ok => by rw [digB_iff.mpr ok.2.2] at c3; cases c3) _ sm)⟩
          | true =>
            refine ⟨_, rfl, iteF ?_⟩
            have ok := digB_iff.mp c3
            have wk : wokB (tl x) = true := wokB_iff.mpr ⟨by omega, by omega, ok⟩
            have ne : tl x ≠ [] := List.length_pos_iff.mp (show 0 < (tl x).length by omega)
            obtain ⟨c0, r0, e0⟩ := List.exists_cons_of_ne_nil ne
            have hd : (tl x).head? = some c0 := by
              rw [e0]
              rfl
            have good : leadB (tl x) = false → Q (.int (digitsVal (tl x) : Nat)) H' := fun z => by
              have y := q H' sm
              unfold figs at y
              rw [wk, z] at y
              exact y
            have fin : leadB (tl x) = false → ∃ a n, [V.str x] = [V.str a] ∧ intText? a = some n ∧ a.length ≤ 640 ∧ Q (.int n) H' := fun z => ⟨x, (digitsVal (tl x) : Nat), rfl, intText_digits ok ne (by omega), by omega, good z⟩
            have ec : (⟨#[c0]⟩ : Str) = "0" ↔ c0 = 48 := by
              have t0 : tl ("0" : Str) = [48] := by decide
              refine ⟨fun z => ?_, fun z => by rw [z]; exact ext_tl (by rw [t0])⟩
              have z2 := congrArg tl z
              rw [t0] at z2
              exact (List.cons.inj z2).1
            refine ⟨_, rfl, x, 0, c0, rfl, rfl, xs, ?_, rfl, _, rfl, ite2 (fun e => ?n1) (fun e => iteF ?r1)⟩
            · have z := atI_nat (xs := tl x) (j := 0) (v := c0) (by rw [e0]; rfl)
              exact z
            case' n1 => refine ⟨_, rfl, _, x.length, rfl, ⟨xs, rfl⟩, (x.length : Int), 1, rfl, rfl, _, rfl, ite2 (fun e2 => ?y) (fun e2 => ?r2)⟩
            case y =>
              have z1 : c0 = 48 := ec.mp (V.str.inj (of_decide_eq_true e))
              have z2 : (1 : Int) < (x.length : Int) := of_decide_eq_true e2
              refine bad ?_ _ sm
              unfold leadB
              rw [hd, z1, decide_eq_true rfl, decide_eq_true (show 1 < (tl x).length by omega), wk]
              rfl
            case r1 =>
              refine ⟨_, rfl, fin ?_⟩
              unfold leadB
              rw [hd, decide_eq_false fun z => e (decide_eq_true (congrArg V.str (ec.mpr (Option.some.inj z))))]
              rfl
            case r2 =>
              refine ⟨_, rfl, fin ?_⟩
              unfold leadB
              rw [decide_eq_false (show ¬ 1 < (tl x).length from fun z => e2 (decide_eq_true (by omega))), Bool.and_false]
      · rw [decide_eq_false c2]
        exact iteT (bad1 (fun ok => c2 (by have := ok.2.1; omega)) _ (Same.refl _))
    · exact ⟨false, rfl, iteT (bad1 (fun ok => e1 (decide_eq_true (by have := ok.1; omega))) _ (Same.refl _))⟩
end
end SS
namespace SS
open PySem PySem.Spec PyProof.Rows L2 TL NumText
theorem spl_words (n : Nat) : ∀ u : List Nat, u.length ≤ n → (spl [47] 0 [] u).length ≤ u.length + 1 ∧ ∀ v ∈ spl [47] 0 [] u, v.length ≤ u.length := by
  induction n with
  | zero =>
    intro u hu
    have e : u = [] := List.length_eq_zero_iff.mp (by omega)
    subst e
    rw [spl47_one List.not_mem_nil]
    refine ⟨by decide, fun v hv => ?_⟩
    rw [List.mem_singleton.mp hv]
    exact Nat.le_refl _
  | succ n ih =>
    intro u hu
    rcases cut47 u with h | ⟨a, b, rfl, h⟩
    · rw [spl47_one h]
      refine ⟨by show 1 ≤ _; omega, fun v hv => ?_⟩
      rw [List.mem_singleton.mp hv]
      exact Nat.le_refl _
    · rw [List.length_append, List.length_cons] at hu
      obtain ⟨i1, i2⟩ := ih b (by omega)
      rw [spl47_cut h, List.length_append, List.length_cons, List.length_cons]
      refine ⟨by omega, fun v hv => ?_⟩
      rcases List.mem_cons.mp hv with z | z
      · rw [z]
        omega
      · have := i2 v z
        omega
theorem rdL_long (ng : Bool) {l : List (Option Nat)} (h : 2 < l.length) : rdL ng l = none := by
  cases l with
  | nil => exact absurd h (by decide)
  | cons a l =>
    cases l with
    | nil => exact absurd h (by simp)
    | cons b l =>
      cases l with
      | nil => exact absurd h (by simp)
      | cons c l => cases a <;> cases b <;> rfl
theorem rdL_none (ng : Bool) {l : List (Option Nat)} (h : none ∈ l) : rdL ng l = none := by
  cases l with
  | nil => cases h
  | cons a l =>
    cases a with
    | none => rfl
    | some n =>
      cases l with
      | nil =>
        rcases List.mem_cons.mp h with z | z
        · cases z
        · cases z
      | cons b l =>
        cases b with
        | none => cases l <;> rfl
        | some d =>
          cases l with
          | nil =>
            rcases List.mem_cons.mp h with z | z
            · cases z
            · rcases List.mem_cons.mp z with z | z
              · cases z
              · cases z
          | cons c l => rfl
theorem tl_cut1 (x : Str) : tl (cutS x none (some 1)) = (tl x).take 1 := by
  show ((tl x).drop 0).take (HT.sIx x.length x.length (some ((1 : Nat) : Int)) - 0) = _
  rw [HT.sIx_nat, List.drop_zero, Nat.sub_zero, len_tl]
  by_cases c : (tl x).length = 0
  · rw [List.length_eq_zero_iff.mp c]
    rfl
  · rw [show min 1 (tl x).length = 1 by omega]
theorem tl_cutd (x : Str) (i : Nat) : tl (cutS x (some (i : Int)) none) = (tl x).drop i := by
  show ((tl x).drop (HT.sIx x.length 0 (some (i : Int)))).take (x.length - HT.sIx x.length 0 (some (i : Int))) = _
  rw [HT.sIx_nat, len_tl, List.take_of_length_le (by rw [List.length_drop]; exact Nat.le_refl _)]
  by_cases c : i ≤ (tl x).length
  · rw [Nat.min_eq_left c]
  · rw [Nat.min_eq_right (by omega), List.drop_of_length_le (Nat.le_refl _), List.drop_of_length_le (by omega)]
theorem cut_ng (x : Str) : decide (V.str (cutS x none (some 1)) = V.str "-") = ngB (tl x) := by
  unfold ngB
  rw [Bool.eq_iff_iff, decide_eq_true_iff, decide_eq_true_iff]
  have e : V.str (cutS x none (some 1)) = V.str "-" ↔ (tl x).take 1 = [45] := by
    rw [← tl_cut1, ← tl_dash]
    exact ⟨fun z => congrArg tl (V.str.inj z), fun z => congrArg V.str (ext_tl z)⟩
  rw [e]
  cases tl x with
  | nil => exact ⟨(fun z => by cases z), (fun z => by cases z)⟩
  | cons a r =>
    show [a] = [45] ↔ some a = some 45
    exact ⟨fun z => by rw [(List.cons.inj z).1], fun z => by rw [Option.some.inj z]⟩
theorem cut_bare (x : Str) : tl (cutS x (some (if ngB (tl x) = true then 1 else 0)) none) = bare (tl x) := by
  unfold bare
  by_cases c : ngB (tl x) = true
  · rw [if_pos c, if_pos c]
    have z := tl_cutd x 1
    rw [List.drop_one] at z
    exact z
  · rw [if_neg c, if_neg c]
    exact tl_cutd x 0
theorem split_words (x : Str) : (Txt.split (cutS x (some (if ngB (tl x) = true then 1 else 0)) none) "/").map tl = spl [47] 0 [] (bare (tl x)) := by
  rw [split_spl _ _ (by rw [tl_stroke]; simp) (kind_ok (by decide +kernel)), tl_stroke, cut_bare]
theorem flat_figs (l : List (List Nat)) : (l.map fun z => figV (figs z)).all flatV = true := by
  rw [List.all_map, List.all_eq_true]
  intro z _
  show flatV (figV (figs z)) = true
  cases figs z <;> rfl
theorem in_figs (l : List (List Nat)) : inV .non (l.map fun z => figV (figs z)) = true ↔ none ∈ l.map figs := by
  unfold inV
  rw [List.any_map, List.any_eq_true]
  refine ⟨fun ⟨z, hz, e⟩ => ?_, fun h => ?_⟩
  · have e' : eqV (figV (figs z)) .non = true := e
    cases c : figs z with
    | none => exact List.mem_map.mpr ⟨z, hz, c⟩
    | some n =>
      rw [c] at e'
      cases e'
  · obtain ⟨z, hz, e⟩ := List.mem_map.mp h
    refine ⟨z, hz, ?_⟩
    show eqV (figV (figs z)) .non = true
    rw [e]
    rfl
theorem figs_lt {l : List Nat} {n : Nat} (h : figs l = some n) : n < 10 ^ 30 := by
  unfold figs at h
  split at h
  · rename_i c
    rw [Bool.and_eq_true] at c
    rw [← Option.some.inj h]
    exact wok_lt c.1
  · cases h
section
variable {P : Program} {w : World} {K : PySem.W.Frag} {mg : Str → Option Value} {base : Heap}
/-! ### _law_read_number -/
def spRdN : Sp := fun vs H Q _ => ∃ x : Str, vs = [.str x] ∧ x.length ≤ 900 ∧ (rd (tl x) = none → ∀ H', Same H H' → Q .non H') ∧ (∀ N, rd (tl x) = some N → ∀ H' p, Same H H' → H p = none → H' p = some (.tup [.int N.1, .int N.2]) → Q (.ref p) H')
theorem scRdN : FnScope ["_law_text", "_law_below", "_law_words", "_law_numbers", "_law_top", "_law_under", "_law_word"] ["_law_text"] (defScope sRdN) := ⟨rfl, rfl, rfl, by decide +kernel, rfl, by decide +kernel, by decide +kernel⟩
set_option maxHeartbeats 4000000 in
theorem ok_rdn {f : Addr} {fd : FuncData} (F : Fun K "_law_read_number" "_law_read_number" sRdN f fd) (mi : mg "int" = none) (ml : mg "len" = none) (fg : Cl P w K mg base CX0 1 "_law_figures" spFigs []) (sh : Cl P w K mg base CX0 1 "_law_shared" spGcd []) : FnOk P w K mg base CX0 2 f fd ["_law_text"] spRdN := by
  refine F.ok scRdN (fun vs H Q E h => ?_) (fun cdv A outer s H vs Q E hr h => ?_)
  · obtain ⟨_, rfl, _⟩ := h
    rfl
  · obtain ⟨x, rfl, hx, q0, q1⟩ := h
    refine ⟨_, pss_cons (ps_set (i := 1) scRdN.nd rfl (.inl rfl) (pe_cmpR op_eq (pe_slice sl_str (pv 0) po_none (po_some pe_int)) pe_str (nomark _)))
      (pss_cons (ps_set (i := 2) scRdN.nd rfl (.inl rfl) (pe_split (pe_slice sl_str (pv 0) (po_some (pe_callTy call_int1 (by rfl) mi (by decide +kernel) (pa_cons (pv 1) pa_nil))) po_none) pe_str))
      (pss_cons (ps_setLc (i := 3) (own := [("_law_word", 6)]) (g := gName 6) (tt := tYes) rfl scRdN.nd rfl rfl (sw_true rfl rfl rfl (by rfl)) (pi_list (pv 2)) (blkOk_by (by rfl)) (fun _ _ _ _ _ => pg_name (i := 6) scRdN.nd rfl (Or.inl rfl)) (fun _ _ _ _ _ => pts_nil) (fun _ _ _ _ _ => pc0 fg hr (by decide) (pa_cons (pv 6) pa_nil)))
      (pss_cons (ps_if (PW.pt (pw_or (pt_cmpR op_gt (pe_callB call_len_seq (by rfl) ml PySem.boot_len (pa_cons (pv 2) pa_nil)) pe_int (nomark _)) (pw_or1 (pt_cmpR op_in_seq pe_non (pv 3) rfl)))) (pss_one (ps_ret pe_non)) pss_nil)
      (pss_cons (ps_asg (pe_slice sl_list (pe_op op_cat (pv 3) (pe_lst (pa_cons pe_int pa_nil))) po_none (po_some pe_int)) (pg_unl rfl (pgs_cons (pg_name (i := 4) scRdN.nd rfl (.inl rfl)) (pgs_cons (pg_name (i := 5) scRdN.nd rfl (.inl rfl)) pgs_nil))))
      (pss_cons (ps_if (PW.pt (pw_and (pt_cmpR op_eq (pe_callB call_len_seq (by rfl) ml PySem.boot_len (pa_cons (pv 2) pa_nil)) pe_int (nomark _)) (pw_and1 (PW.pt (pw_or (pt_cmpR op_lt (pv 5) pe_int (nomark _)) (pw_or1 (pt_cmpR op_ne (pc0 sh hr (by decide) (pa_cons (pv 4) (pa_cons (pv 5) pa_nil))) pe_int (nomark _)))))))) (pss_one (ps_ret pe_non)) pss_nil)
      (pss_cons (ps_if (PW.pt (pw_and (pt_val (pv 1)) (pw_and1 (pt_cmpR op_eq (pv 4) pe_int (nomark _))))) (pss_one (ps_ret pe_non)) pss_nil)
      (pss_one (ps_ret (pe_tup (pa_cons (pe_op op_mulW (pv 4) (pe_op op_sub pe_int (pe_op op_mul pe_int (pe_callTy call_int1 (by rfl) mi (by decide +kernel) (pa_cons (pv 1) pa_nil))))) (pa_cons (pv 5) pa_nil))))))))))), ?_⟩
    have xs : x.length ≤ sizeLine := Nat.le_of_lt (small1000 (by omega))
    refine ⟨_, rfl, 1, rfl, x, rfl, xs, rfl, ?_⟩
    rw [cut_ng]
    refine ⟨_, rfl, _, rfl, .inr ⟨ngB (tl x), rfl, _, rfl, x, rfl, xs, ⟨_, rfl⟩, _, _, rfl, rfl, by decide, ?_, fun p np => ?_⟩⟩
    · have z := cutS_length x (some (if ngB (tl x) = true then 1 else 0)) none
      exact Nat.le_of_lt (small1000 (by omega))
    have ew := split_words x
    generalize Txt.split (cutS x (some (if ngB (tl x) = true then 1 else 0)) none) "/" = ws at ew ⊢
    have sp := same_new (o := .lst (ws.map V.str)) np
    have hp := upd_same (H := H) (a := p) (o := .lst (ws.map V.str))
    generalize upd H p (.lst (ws.map V.str)) = H1 at sp hp ⊢
    have bl : (bare (tl x)).length ≤ x.length := by
      rw [len_tl]
      unfold bare
      split
      · rw [List.length_tail]
        omega
      · exact Nat.le_refl _
    obtain ⟨k1, k2⟩ := spl_words _ (bare (tl x)) (Nat.le_refl _)
    rw [← ew] at k1 k2
    rw [List.length_map] at k1
    have er : rd (tl x) = rdL (ngB (tl x)) ((ws.map tl).map figs) := by
      unfold rd
      rw [ew]
    refine ⟨_, rfl, p, rfl, ⟨_, SqL.of hp⟩, fun D nD => ?_⟩
    have pD : p ≠ D := ne_of_none hp nD
    refine lc_list (K := K) (a := p) (xs := ws.map V.str) (fun i H' => H' D = some (.lst ((ws.take i).map fun z => figV (figs (tl z)))) ∧ ∀ b o, b ≠ D → H1 b = some o → H' b = some o)
      ⟨upd_same, fun b o nb e => by rw [upd_ne nb]; exact e⟩ (fun i H' _ ⟨_, w2⟩ => SqL.of (w2 _ _ pD hp)) ?_ ?_
    · rintro i y H2 hy ⟨w1, w2⟩
      rw [List.getElem?_map] at hy
      cases ei : ws[i]? with
      | none =>
        rw [ei] at hy
        cases hy
      | some z =>
        rw [ei] at hy
        obtain rfl := (Option.some.inj hy).symm
        have zl : z.length ≤ 1000 := by
          have := k2 (tl z) (List.mem_map.mpr ⟨z, List.mem_of_getElem? ei, rfl⟩)
          rw [len_tl]
          omega
        have il : i < ws.length := (List.getElem?_eq_some_iff.mp ei).1
        refine ⟨rfl, _, rfl, z, rfl, zl, fun H3 s3 => ⟨_, s3 _ _ w1, ?_, ?_, ?_⟩⟩
        · rw [List.length_map]
          have := List.length_take_le' i ws
          exact small1000 (by rw [List.length_take]; omega)
        · rw [upd_same, List.take_add_one, ei, List.map_append]
          rfl
        · intro b o nb e
          rw [upd_ne nb]
          exact s3 _ _ (w2 b o nb e)
    · rintro H2 ⟨w1, w2⟩
      have et : ws.take (ws.map V.str).length = ws := by
        rw [List.length_map]
        exact List.take_length
      rw [et] at w1
      have S2 : Same H H2 := sp.trans fun b o e => w2 _ _ (ne_of_none e nD) e
      have hp2 : H2 p = some (.lst (ws.map V.str)) := w2 _ _ pD hp
      have hD2 : H2 D = some (.lst ((ws.map tl).map fun z => figV (figs z))) := by
        rw [List.map_map]
        exact w1
      have el : ((ws.map V.str).length : Int) = (ws.length : Int) := by rw [List.length_map]
      clear w1 w2
      refine ⟨_, rfl, p, _, rfl, .inl (SqL.of hp2), (ws.length : Int), 2, congrArg V.int el, rfl, _, rfl, ite2 (fun e => ?_) (fun e => ?_)⟩
      · have e' : (2 : Int) < (ws.length : Int) := of_decide_eq_true e
        refine q0 (by rw [er]; exact rdL_long _ (by rw [List.length_map, List.length_map]; omega)) _ S2
      · have e' : ¬ (2 : Int) < (ws.length : Int) := fun z => e (decide_eq_true z)
        refine ⟨_, rfl, D, _, rfl, .inl (SqL.of hD2), rfl, flat_figs _, _, rfl, ite2 (fun e2 => ?_) (fun e2 => ?_)⟩
        · exact q0 (by rw [er]; exact rdL_none _ ((in_figs _).mp e2)) _ S2
        · have nn : none ∉ (ws.map tl).map figs := fun z => e2 ((in_figs _).mpr z)
          have lp : 1 ≤ (ws.map tl).length := by
            rw [ew]
            exact spl_pos _
          rw [List.length_map] at lp
          obtain ⟨L, hL⟩ : ∃ L, L = ws.map tl := ⟨_, rfl⟩
          rw [← hL] at hD2 er nn
          have lL : ws.length = L.length := by rw [hL, List.length_map]
          clear hL
          have hc : (∃ a n, L = [a] ∧ figs a = some n) ∨ ∃ a b n d, L = [a, b] ∧ figs a = some n ∧ figs b = some d := by
            match L, nn, lL with
            | [], _, lL => exact absurd (show ws.length = 0 from lL) (by omega)
            | a :: b :: c :: r, _, lL =>
              have : ws.length = r.length + 3 := lL
              exact absurd e' (by omega)
            | [a], nn, _ =>
              cases ca : figs a with
              | none => exact absurd (by rw [List.map_cons, ca]; exact List.mem_cons_self) nn
              | some n => exact .inl ⟨a, n, rfl, ca⟩
            | [a, b], nn, _ =>
              cases ca : figs a with
              | none => exact absurd (by rw [List.map_cons, ca]; exact List.mem_cons_self) nn
              | some n =>
                cases cb : figs b with
                | none => exact absurd (by rw [List.map_cons, List.map_cons, cb]; exact List.mem_cons_of_mem _ List.mem_cons_self) nn
                | some d => exact .inr ⟨a, b, n, d, rfl, ca, cb⟩
          clear nn
          refine' mid (C := _) (Inv := fun σ H' => ∃ (y2 y3 y6 : Option V) (n : Nat) (d : Int), σ = [some (.str x), some (.bl (ngB (tl x))), y2, y3, some (.int (n : Int)), some (.int d), y6] ∧ Same H H' ∧ n < 10 ^ 30 ∧ rd (tl x) = if (ngB (tl x) && decide (n = 0)) = true then none else some (sg (ngB (tl x)) n, d)) (fun key => ?main) ?cont
          case main =>
            rcases hc with ⟨a, n, eL, ca⟩ | ⟨a, b, n, d, eL, ca, cb⟩
            · rw [eL] at hD2 er lL
              have hD3 : H2 D = some (.lst [.int (n : Int)]) := by
                rw [hD2]
                show some (HO.lst [figV (figs a)]) = _
                rw [ca]
                rfl
              refine ⟨_, rfl, by show 1 ≤ sizeLine; decide, fun L1 n1 => ?_⟩
              have s1 := same_new (o := .lst [.int 1]) n1
              refine ⟨D, L1, _, _, rfl, rfl, s1 _ _ hD3, upd_same, by show 2 ≤ sizeLine; decide, fun L2 n2 => ?_⟩
              have s2 := same_new (o := .lst [.int (n : Int), .int 1]) n2
              refine ⟨2, rfl, L2, _, rfl, SqL.of upd_same, fun L3 n3 => ?_⟩
              have s3 := same_new (o := .lst [.int (n : Int), .int 1]) n3
              have S := ((S2.trans s1).trans s2).trans s3
              refine ⟨L3, [.int (n : Int), .int 1], rfl, SqL.of upd_same, rfl, _, _, rfl, _, _, rfl, rfl, ?_⟩
              have hp3 := s3 _ _ (s2 _ _ (s1 _ _ hp2))
              refine ⟨_, rfl, p, _, rfl, .inl (SqL.of hp3), ?_⟩
              rw [el, lL]
              refine ⟨rfl, _, rfl, ite2 (fun z => absurd (show (1 : Int) = 2 from V.int.inj (of_decide_eq_true z)) (by decide)) (fun _ => iteF ?_)⟩
              refine key _ _ ⟨_, _, _, n, 1, rfl, S, figs_lt ca, ?_⟩
              rw [er, List.map_cons, ca]
              rfl
            · rw [eL] at hD2 er lL
              have hD3 : H2 D = some (.lst [.int (n : Int), .int (d : Int)]) := by
                rw [hD2]
                show some (HO.lst [figV (figs a), figV (figs b)]) = _
                rw [ca, cb]
                rfl
              refine ⟨_, rfl, by show 1 ≤ sizeLine; decide, fun L1 n1 => ?_⟩
              have s1 := same_new (o := .lst [.int 1]) n1
              refine ⟨D, L1, _, _, rfl, rfl, s1 _ _ hD3, upd_same, by show 3 ≤ sizeLine; decide, fun L2 n2 => ?_⟩
              have s2 := same_new (o := .lst [.int (n : Int), .int (d : Int), .int 1]) n2
              refine ⟨2, rfl, L2, _, rfl, SqL.of upd_same, fun L3 n3 => ?_⟩
              have s3 := same_new (o := .lst [.int (n : Int), .int (d : Int)]) n3
              have S := ((S2.trans s1).trans s2).trans s3
              refine ⟨L3, [.int (n : Int), .int (d : Int)], rfl, SqL.of upd_same, rfl, _, _, rfl, _, _, rfl, rfl, ?_⟩
              have hp3 := s3 _ _ (s2 _ _ (s1 _ _ hp2))
              have er2 : rd (tl x) = if (decide (d < 2) || decide (Nat.gcd n d ≠ 1) || (ngB (tl x) && decide (n = 0))) = true then none else some (sg (ngB (tl x)) n, (d : Int)) := by
                rw [er, List.map_cons, List.map_cons, ca, cb]
                rfl
              refine ⟨_, rfl, p, _, rfl, .inl (SqL.of hp3), ?_⟩
              rw [el, lL]
              refine ⟨rfl, _, rfl, ite2 (fun _ => ?_) (fun z => absurd (decide_eq_true rfl) z)⟩
              refine ⟨_, rfl, (d : Int), 2, rfl, rfl, _, rfl, ite2 (fun z => ?_) (fun z => ?_)⟩
              · have z' : (d : Int) < 2 := of_decide_eq_true z
                refine iteT (q0 ?_ _ S)
                rw [er2, decide_eq_true (show d < 2 by omega)]
                rfl
              · have z' : ¬ (d : Int) < 2 := fun y => z (decide_eq_true y)
                refine ⟨_, rfl, _, rfl, (n : Int), (d : Int), rfl, rfl, _, rfl, ite2 (fun g => ?_) (fun g => ?_)⟩
                · have g' : Nat.gcd n d ≠ 1 := fun y => by
                    have g2 : (!decide (V.int ((Int.gcd (n : Int) (d : Int) : Nat) : Int) = V.int 1)) = true := g
                    rw [show Int.gcd (n : Int) (d : Int) = 1 from y, decide_eq_true (show V.int ((1 : Nat) : Int) = V.int 1 from rfl)] at g2
                    cases g2
                  refine q0 ?_ _ S
                  rw [er2, decide_eq_true g', Bool.or_true]
                  rfl
                · have g' : Nat.gcd n d = 1 := Classical.byContradiction fun y => g (by
                    show (!decide (V.int ((Int.gcd (n : Int) (d : Int) : Nat) : Int) = V.int 1)) = true
                    rw [decide_eq_false fun w' => y (by have w2 := V.int.inj w'; exact Int.ofNat.inj w2)]
                    rfl)
                  refine key _ _ ⟨_, _, _, n, (d : Int), rfl, S, figs_lt ca, ?_⟩
                  rw [er2, decide_eq_false (show ¬ d < 2 by omega), decide_eq_false (fun y : Nat.gcd n d ≠ 1 => y g')]
                  rfl
          case cont =>
            rintro σ H3 ⟨y2, y3, y6, n, d, rfl, S, nl, hrd⟩
            have fin : ¬ (ngB (tl x) = true ∧ n = 0) → rd (tl x) = some (sg (ngB (tl x)) n, d) := fun z => by
              rw [hrd, if_neg fun y => z (by rw [Bool.and_eq_true, decide_eq_true_iff] at y; exact y)]
            have ret : ¬ (ngB (tl x) = true ∧ n = 0) → ∀ t : Int, t = sg (ngB (tl x)) n → ∀ T, H3 T = none → Q (.ref T) (upd H3 T (.tup [.int t, .int d])) := fun z t et T nT => by
              have sT := same_new (o := .tup [.int t, .int d]) nT
              refine q1 _ (fin z) _ T (S.trans sT) (S.free nT) ?_
              rw [upd_same, et]
            cases c : ngB (tl x) with
            | false =>
              refine ⟨_, rfl, _, rfl, iteF ?_⟩
              refine ⟨_, rfl, _, rfl, .inr ⟨false, rfl, 2, 0, rfl, rfl, .inl ⟨by decide, by decide⟩, 1, 0, rfl, rfl, (n : Int), 1, rfl, rfl, wide_mul (a := 100) (b := 100) ?_ (by decide) (by decide) (by decide) (by decide), _, rfl, small2, ?_⟩⟩
              · rw [Int.natAbs_natCast]
                exact Nat.lt_trans nl (by decide)
              · refine ret (fun z => by rw [c] at z; cases z.1) _ ?_
                rw [c]
                show (n : Int) * 1 = (n : Int)
                omega
            | true =>
              refine ⟨_, rfl, _, rfl, iteT ?_⟩
              refine ⟨_, rfl, rfl, _, rfl, ite2 (fun z => ?_) (fun z => ?_)⟩
              · have n0 : (n : Int) = 0 := V.int.inj (of_decide_eq_true z)
                refine q0 ?_ _ S
                rw [hrd, c, decide_eq_true (show n = 0 by omega)]
                rfl
              · have n0 : n ≠ 0 := fun y => z (decide_eq_true (by show V.int (n : Int) = V.int 0; rw [y]; rfl))
                refine ⟨_, rfl, _, rfl, .inr ⟨true, rfl, 2, 1, rfl, rfl, .inl ⟨by decide, by decide⟩, 1, 2, rfl, rfl, (n : Int), -1, rfl, rfl, wide_mul (a := 100) (b := 100) ?_ (by decide) (by decide) (by decide) (by decide), _, rfl, small2, ?_⟩⟩
                · rw [Int.natAbs_natCast]
                  exact Nat.lt_trans nl (by decide)
                · refine ret (fun y => n0 y.2) _ ?_
                  rw [c]
                  show (n : Int) * -1 = -(n : Int)
                  omega
end
end SS
namespace SS
open PySem PySem.Spec PyProof.Rows L2 TL NumText
theorem cutV_drop (xs : List V) (k : Nat) : cutV xs (some (k : Int)) none = xs.drop k := by
  unfold cutV
  rw [HT.sIx_nat, HT.sIx_none, List.take_of_length_le (by rw [List.length_drop]; exact Nat.le_refl _)]
  by_cases c : k ≤ xs.length
  · rw [Nat.min_eq_left c]
  · rw [Nat.min_eq_right (by omega), List.drop_of_length_le (Nat.le_refl _), List.drop_of_length_le (by omega)]
theorem dig_notNm {z : Str} {c : Nat} {r : List Nat} (e : tl z = c :: r) (h : c ≤ 57) : ¬ NmOk z := fun ok => by
  have y := ok.2.2 c (show c ∈ tl z by rw [e]; exact List.mem_cons_self)
  omega
theorem tl_plus' : tl ("+" : Str) = [43] := by decide
/-- the words of a term, and what is behind -/
theorem wds_cut {ws W : List Str} {y : Str} {N : Int × Int} (h : ws.map tl = wds y N ++ W.map tl) : ∃ (s : Str) (zs : List Str) (j : Nat), ws = s :: zs ∧ tl s = [sgC N] ∧ zs[j]? = some y ∧ zs.drop (j + 1) = W ∧ zs.length ≤ W.length + 2 ∧
    ((j = 0 ∧ szN N = (1, 1)) ∨ (j = 1 ∧ ∃ z, zs[0]? = some z ∧ tl z = fL (szN N))) := by
  unfold wds at h
  cases ws with
  | nil => cases h
  | cons s zs =>
    have h1 := (List.cons.inj h).1
    have h2 : zs.map tl = _ := (List.cons.inj h).2
    by_cases c : szN N = (1, 1)
    · rw [if_pos c] at h2
      cases zs with
      | nil => cases h2
      | cons y' W' =>
        have e1 : tl y' = tl y := (List.cons.inj h2).1
        have e2 : W'.map tl = W.map tl := (List.cons.inj h2).2
        have e3 := ext_tl e1
        have e4 := map_tl_inj e2
        subst e3 e4
        exact ⟨s, y' :: W', 0, rfl, h1, rfl, rfl, by rw [List.length_cons]; omega, .inl ⟨rfl, c⟩⟩
    · rw [if_neg c] at h2
      cases zs with
      | nil => cases h2
      | cons z zs =>
        have ez : tl z = fL (szN N) := (List.cons.inj h2).1
        have h3 : zs.map tl = _ := (List.cons.inj h2).2
        cases zs with
        | nil => cases h3
        | cons y' W' =>
          have e1 : tl y' = tl y := (List.cons.inj h3).1
          have e2 : W'.map tl = W.map tl := (List.cons.inj h3).2
          have e3 := ext_tl e1
          have e4 := map_tl_inj e2
          subst e3 e4
          exact ⟨s, z :: y' :: W', 1, rfl, h1, rfl, rfl, by rw [List.length_cons, List.length_cons]; omega, .inr ⟨rfl, z, rfl, ez⟩⟩
/-! ### what is read is so written -/
theorem fL_rd {l : List Nat} {N : Int × Int} (h : rd l = some N) : fL N = l ∧ Fg N := by
  rcases cut47 (bare l) with h47 | ⟨a, b, e, h47⟩
  · by_cases w : wokB (bare l) = true
    · by_cases c : zL (sg (ngB l) (digitsVal (bare l))) = l
      · rw [(rd_one h47 w).1 c] at h
        obtain rfl := (Option.some.inj h).symm
        refine ⟨(if_pos rfl).trans c, (by show (0 : Int) < 1; decide), ?_, (by show (1 : Int).natAbs < 10 ^ 30; decide), Int.gcd_one_right _⟩
        show (sg (ngB l) (digitsVal (bare l))).natAbs < _
        rw [sg_abs]
        exact wok_lt w
      · rw [(rd_one h47 w).2 c] at h
        cases h
    · rw [rd_one_no h47 (Bool.eq_false_iff.mpr w)] at h
      cases h
  · by_cases wa : wokB a = true
    · by_cases wb : wokB b = true
      · by_cases d0 : digitsVal b = 0
        · rw [rd_two_0 e h47 wb d0] at h
          cases h
        · have g0 : 0 < Nat.gcd (digitsVal a) (digitsVal b) := Nat.gcd_pos_of_pos_right _ (by omega)
          have hp := Nat.div_mul_cancel (Nat.gcd_dvd_left (digitsVal a) (digitsVal b))
          have hq := Nat.div_mul_cancel (Nat.gcd_dvd_right (digitsVal a) (digitsVal b))
          have gg : Nat.gcd (digitsVal a / Nat.gcd (digitsVal a) (digitsVal b)) (digitsVal b / Nat.gcd (digitsVal a) (digitsVal b)) = 1 := Nat.coprime_div_gcd_div_gcd g0
          have r2 := rd_two e wa wb d0 hp hq
          have pl := Nat.div_le_self (digitsVal a) (Nat.gcd (digitsVal a) (digitsVal b))
          have ql := Nat.div_le_self (digitsVal b) (Nat.gcd (digitsVal a) (digitsVal b))
          have q0 : digitsVal b / Nat.gcd (digitsVal a) (digitsVal b) ≠ 0 := fun z => by
            rw [z, Nat.zero_mul] at hq
            exact d0 hq.symm
          generalize digitsVal a / Nat.gcd (digitsVal a) (digitsVal b) = p at *
          generalize digitsVal b / Nat.gcd (digitsVal a) (digitsVal b) = q at *
          by_cases c : fL (sg (ngB l) p, (q : Int)) = l
          · rw [r2.1 c] at h
            obtain rfl := (Option.some.inj h).symm
            have o := okb_sg (b := ngB l) gg q0 (Nat.lt_of_le_of_lt pl (wok_lt wa)) (Nat.lt_of_le_of_lt ql (wok_lt wb))
            refine ⟨c, o.1, ?_, ?_, o.2.2.2⟩
            · show (sg (ngB l) p).natAbs < _
              rw [sg_abs]
              exact Nat.lt_of_le_of_lt pl (wok_lt wa)
            · show ((q : Int)).natAbs < _
              rw [Int.natAbs_natCast]
              exact Nat.lt_of_le_of_lt ql (wok_lt wb)
          · rw [r2.2 c] at h
            cases h
      · rw [rd_two_no e h47 (.inr (Bool.eq_false_iff.mpr wb))] at h
        cases h
    · rw [rd_two_no e h47 (.inl (Bool.eq_false_iff.mpr wa))] at h
      cases h
theorem zL_inj {n m : Int} (h : zL n = zL m) : n = m := by
  obtain ⟨c, r, e, c1, c2⟩ := numL_head n.natAbs
  obtain ⟨c', r', e', c1', c2'⟩ := numL_head m.natAbs
  unfold zL at h
  split at h
  · split at h
    · have z := numL_inj (List.cons.inj h).2
      omega
    · rw [e'] at h
      have z := (List.cons.inj h).1
      omega
  · split at h
    · rw [e] at h
      have z := (List.cons.inj h).1
      omega
    · have z := numL_inj h
      omega
theorem fL_inj {N M : Int × Int} (h : fL N = fL M) : N = M := by
  unfold fL at h
  by_cases c : N.2 = 1
  · by_cases d : M.2 = 1
    · rw [if_pos c, if_pos d] at h
      exact Prod.ext (zL_inj h) (c.trans d.symm)
    · rw [if_pos c, if_neg d] at h
      exact absurd (by rw [h]; exact List.mem_append_right _ List.mem_cons_self) (zL_no N.1)
  · by_cases d : M.2 = 1
    · rw [if_neg c, if_pos d] at h
      exact absurd (by rw [← h]; exact List.mem_append_right _ List.mem_cons_self) (zL_no M.1)
    · rw [if_neg c, if_neg d] at h
      obtain ⟨a, b⟩ := split47 (zL_no _) (zL_no _) h
      exact Prod.ext (zL_inj a) (zL_inj b)
/-! ### words -/
theorem cut32 (u : List Nat) : 32 ∉ u ∨ ∃ a b, u = a ++ 32 :: b ∧ 32 ∉ a := by
  induction u with
  | nil => exact .inl List.not_mem_nil
  | cons c r ih =>
    by_cases e : c = 32
    · exact .inr ⟨[], r, by rw [e]; rfl, List.not_mem_nil⟩
    · rcases ih with h | ⟨a, b, rfl, h⟩
      · exact .inl fun z => by
          rcases List.mem_cons.mp z with z | z
          · exact e z.symm
          · exact h z
      · refine .inr ⟨c :: a, b, rfl, fun z => ?_⟩
        rcases List.mem_cons.mp z with z | z
        · exact e z.symm
        · exact h z
theorem spl32_one {u : List Nat} (h : 32 ∉ u) : spl [32] 0 [] u = [u] := by
  have z := spl_last1 (S := []) (acc := []) h
  rw [List.nil_append] at z
  exact z
theorem spl32_cut {a b : List Nat} (h : 32 ∉ a) : spl [32] 0 [] (a ++ 32 :: b) = a :: spl [32] 0 [] b := by
  have z := spl_part1 (S := []) (acc := []) (rest := b) h
  rw [List.nil_append] at z
  exact z
theorem spl32_ne (u : List Nat) : spl [32] 0 [] u ≠ [] := by
  rcases cut32 u with h | ⟨a, b, rfl, h⟩
  · rw [spl32_one h]
    simp
  · rw [spl32_cut h]
    simp
theorem join_spl (n : Nat) : ∀ u : List Nat, u.length ≤ n → joinL [32] (spl [32] 0 [] u) = u ∧ (∀ v ∈ spl [32] 0 [] u, 32 ∉ v ∧ v.length ≤ u.length) ∧ (spl [32] 0 [] u).length = u.count 32 + 1 := by
  induction n with
  | zero =>
    intro u hu
    have e : u = [] := List.length_eq_zero_iff.mp (by omega)
    subst e
    rw [spl32_one List.not_mem_nil]
    refine ⟨rfl, fun v hv => ?_, rfl⟩
    rw [List.mem_singleton.mp hv]
    exact ⟨List.not_mem_nil, Nat.le_refl _⟩
  | succ n ih =>
    intro u hu
    rcases cut32 u with h | ⟨a, b, rfl, h⟩
    · rw [spl32_one h]
      refine ⟨rfl, fun v hv => ?_, ?_⟩
      · rw [List.mem_singleton.mp hv]
        exact ⟨h, Nat.le_refl _⟩
      · rw [List.count_eq_zero.mpr h]
        rfl
    · rw [List.length_append, List.length_cons] at hu
      obtain ⟨i1, i2, i3⟩ := ih b (by omega)
      rw [spl32_cut h]
      obtain ⟨q, r, eq⟩ := List.exists_cons_of_ne_nil (spl32_ne b)
      refine ⟨?_, fun v hv => ?_, ?_⟩
      · rw [eq] at i1 ⊢
        show a ++ ([32] ++ joinL [32] (q :: r)) = _
        rw [i1]
        rfl
      · rw [List.length_append, List.length_cons]
        rcases List.mem_cons.mp hv with z | z
        · rw [z]
          exact ⟨h, by omega⟩
        · have := i2 v z
          exact ⟨this.1, by omega⟩
      · rw [List.length_cons, i3, List.count_append, List.count_cons_self, List.count_eq_zero.mpr h]
        omega
/-- the text with a sign of its own ahead -/
def sgdS (x : Str) : Str := if ngB (tl x) = true then "- " ++ cutS x (some 1) none else "+ " ++ x
def sgCh (l : List Nat) : Nat := if ngB l = true then 45 else 43
theorem sgd_tl (x : Str) : tl (sgdS x) = sgCh (tl x) :: 32 :: bare (tl x) := by
  unfold sgdS sgCh bare
  by_cases c : ngB (tl x) = true
  · rw [if_pos c, if_pos c, if_pos c, tl_append, tl_minusb]
    have e4 := tl_cutd x 1
    show 45 :: 32 :: tl (cutS x (some ((1 : Nat) : Int)) none) = _
    rw [e4, List.drop_one]
  · rw [if_neg c, if_neg c, if_neg c, tl_append, tl_plusb]
    rfl
def wdsP (x : Str) : List Str := Txt.split (sgdS x) " "
theorem wdsP_tl (x : Str) : (wdsP x).map tl = [sgCh (tl x)] :: spl [32] 0 [] (bare (tl x)) := by
  unfold wdsP
  rw [split_spl _ _ (by rw [tl_blank]; simp) (kind_ok (by decide +kernel)), tl_blank, sgd_tl]
  have z := spl32_cut (a := [sgCh (tl x)]) (b := bare (tl x)) (by unfold sgCh; split <;> decide)
  exact z
theorem wdsP_join (x : Str) : joinL [32] ((wdsP x).map tl) = sgCh (tl x) :: 32 :: bare (tl x) := by
  rw [wdsP_tl]
  obtain ⟨q, r, eq⟩ := List.exists_cons_of_ne_nil (spl32_ne (bare (tl x)))
  have z := (join_spl _ (bare (tl x)) (Nat.le_refl _)).1
  rw [eq] at z ⊢
  show [sgCh (tl x)] ++ ([32] ++ joinL [32] (q :: r)) = _
  rw [z]
  rfl
/-! ### terms -/
def isSgB (s : Str) : Bool := decide (s = "+") || decide (s = "-")
def sgnd (s : Str) (M : Int × Int) : Int × Int := if s = "+" then M else (-M.1, M.2)
open Classical in
/-- a term at the head of the words: the program's; with all: the law's -/
noncomputable def rterm (all : Bool) : List Str → Option ((Str × (Int × Int)) × List Str)
  | s :: a :: r => if isSgB s = true then (if NmOk a then some ((a, sgnd s (1, 1)), r) else
      match r with
      | b :: r' => if NmOk b then (match rd (tl a) with | some M => if all = true ∧ (M.1 < 1 ∨ M = (1, 1)) then none else some ((b, sgnd s M), r') | none => none) else none
      | [] => none) else none
  | _ => none
open Classical in
noncomputable def walkT (all : Bool) : Nat → Option Str → List Str → Option (List (Str × (Int × Int)))
  | _, _, [] => some []
  | 0, _, _ :: _ => none
  | n + 1, prev, w :: ws => match rterm all (w :: ws) with
    | none => none
    | some (p, r) => if all = true ∧ (∃ q, prev = some q ∧ ltCps q.cps.toList p.1.cps.toList = false) then none else (match walkT all n (some p.1) r with | none => none | some ps => some (p :: ps))
theorem rterm_len {all : Bool} {ws r : List Str} {p : Str × (Int × Int)} (h : rterm all ws = some (p, r)) : r.length + 2 ≤ ws.length := by
  unfold rterm at h
  split at h
  · rename_i s a r0
    split at h
    · split at h
      · obtain ⟨_, e⟩ := Prod.mk.inj (Option.some.inj h)
        rw [← e, List.length_cons, List.length_cons]
        exact Nat.le_refl _
      · split at h
        · rename_i b r'
          split at h
          · split at h
            · split at h
              · cases h
              · obtain ⟨_, e⟩ := Prod.mk.inj (Option.some.inj h)
                rw [← e]
                simp
            · cases h
          · cases h
        · cases h
    · cases h
  · cases h
/-- a term of the law's is one of the program's, and just the words that are written of it -/
theorem lterm_ok {ws r : List Str} {p : Str × (Int × Int)} (h : rterm true ws = some (p, r)) : rterm false ws = some (p, r) ∧ ws.map tl = wds p.1 p.2 ++ r.map tl ∧ NmOk p.1 ∧ Fg p.2 ∧ p.2.1 ≠ 0 := by
  have sgl : ∀ {s : Str} {M : Int × Int}, isSgB s = true → 1 ≤ M.1 → tl s = [sgC (sgnd s M)] ∧ szN (sgnd s M) = M ∧ (sgnd s M).1 ≠ 0 ∧ (Fg M → Fg (sgnd s M)) := fun {s M} hs h1 => by
    unfold isSgB at hs
    rw [Bool.or_eq_true, decide_eq_true_iff, decide_eq_true_iff] at hs
    by_cases c : s = "+"
    · have e : sgnd s M = M := if_pos c
      rw [e, c, tl_plus']
      refine ⟨?_, Prod.ext (by show (M.1.natAbs : Int) = M.1; omega) rfl, by omega, id⟩
      unfold sgC
      rw [if_neg (by omega)]
    · have c2 : s = "-" := by
        rcases hs with z | z
        · exact absurd z c
        · exact z
      have e : sgnd s M = (-M.1, M.2) := if_neg c
      rw [e, c2, tl_minus]
      refine ⟨?_, Prod.ext (by show ((-M.1).natAbs : Int) = M.1; omega) rfl, by show -M.1 ≠ 0; omega, fun g => ⟨g.1, by show (-M.1).natAbs < _; rw [Int.natAbs_neg]; exact g.2.1, g.2.2.1, by show Int.gcd (-M.1) M.2 = 1; rw [Int.neg_gcd]; exact g.2.2.2⟩⟩
      unfold sgC
      rw [if_pos (by show -M.1 < 0; omega)]
  have fin : ∀ {N : Int × Int} {x : Str}, szN N = (1, 1) → wds x N = [[sgC N], tl x] := fun e => by
    unfold wds
    rw [if_pos e]
    rfl
  have fin2 : ∀ {N : Int × Int} {x : Str}, szN N ≠ (1, 1) → wds x N = [[sgC N], fL (szN N), tl x] := fun e => by
    unfold wds
    rw [if_neg e]
    rfl
  have g11 : Fg ((1, 1) : Int × Int) := ⟨by decide, by decide, by decide, by decide⟩
  unfold rterm at h ⊢
  split at h
  · rename_i s a r0
    split at h
    · rename_i hs
      split at h
      · rename_i ha
        obtain ⟨e1, e2⟩ := Prod.mk.inj (Option.some.inj h)
        subst e1 e2
        obtain ⟨k1, k2, k3, k4⟩ := sgl (M := (1, 1)) hs (by decide)
        refine ⟨by simp only [hs, ha, if_true], ?_, ha, k4 g11, k3⟩
        rw [fin k2, List.map_cons, List.map_cons, k1]
        rfl
      · rename_i ha
        split at h
        · rename_i b r'
          split at h
          · rename_i hb
            split at h
            · rename_i M hM
              split at h
              · cases h
              · rename_i hc
                obtain ⟨e1, e2⟩ := Prod.mk.inj (Option.some.inj h)
                subst e1 e2
                have hc1 : 1 ≤ M.1 := by
                  refine Classical.byContradiction fun z => hc ⟨rfl, .inl (by omega)⟩
                have hc2 : M ≠ (1, 1) := fun z => hc ⟨rfl, .inr z⟩
                obtain ⟨f1, f2⟩ := fL_rd hM
                obtain ⟨k1, k2, k3, k4⟩ := sgl (M := M) hs hc1
                refine ⟨?_, ?_, hb, k4 f2, k3⟩
                · simp only [hs, ha, hb, hM, if_true, if_false]
                  rfl
                · rw [fin2 (by rw [k2]; exact hc2), List.map_cons, List.map_cons, List.map_cons, k1, k2, f1]
                  rfl
            · cases h
          · cases h
        · cases h
    · cases h
  · cases h
/-- the words that are written of a term are read as it, if at all -/
theorem lterm_of {ws r : List Str} {x : Str} {N : Int × Int} (hx : NmOk x) (h0 : N.1 ≠ 0) (e : ws.map tl = wds x N ++ r.map tl) (h : rterm false ws ≠ none) : rterm true ws = some ((x, N), r) ∧ rterm false ws = some ((x, N), r) := by
  obtain ⟨s, zs, j, rfl, es, hj, hd, zl, hB⟩ := wds_cut e
  have hs : isSgB s = true ∧ sgnd s (szN N) = N := by
    unfold isSgB sgnd
    unfold sgC at es
    by_cases c : N.1 < 0
    · rw [if_pos c] at es
      have e1 : s = "-" := ext_tl (by rw [es, tl_minus])
      rw [e1]
      refine ⟨by decide, ?_⟩
      rw [if_neg (by decide)]
      exact Prod.ext (by show -((N.1.natAbs : Int)) = N.1; omega) rfl
    · rw [if_neg c] at es
      have e1 : s = "+" := ext_tl (by rw [es, tl_plus'])
      rw [e1]
      refine ⟨by decide, ?_⟩
      rw [if_pos rfl]
      exact Prod.ext (by show (N.1.natAbs : Int) = N.1; omega) rfl
  rcases hB with ⟨rfl, h1⟩ | ⟨rfl, z, hz, ez⟩
  · cases zs with
    | nil => cases hj
    | cons a zs =>
      obtain rfl := Option.some.inj hj
      have hd' : zs = r := hd
      subst hd'
      rw [h1] at hs
      unfold rterm
      simp only [hs.1, hx, hs.2, if_true]
      exact ⟨trivial, trivial⟩
  · cases zs with
    | nil => cases hz
    | cons a zs =>
      obtain rfl := Option.some.inj hz
      cases zs with
      | nil => cases hj
      | cons b zs =>
        obtain rfl := Option.some.inj hj
        have hd' : zs = r := hd
        subst hd'
        obtain ⟨c, t, ec, _, c2⟩ := fL_head N.1.natAbs N.2
        have na : ¬ NmOk a := dig_notNm (ez.trans ec) c2
        unfold rterm at h ⊢
        simp only [hs.1, na, hx, if_true, if_false] at h ⊢
        cases hM : rd (tl a) with
        | none =>
          rw [hM] at h
          exact absurd rfl h
        | some M =>
          obtain ⟨f1, _⟩ := fL_rd hM
          have eM : M = szN N := fL_inj (f1.trans ez)
          subst eM
          have n1 : ¬ (szN N).1 < 1 := by
            show ¬ ((N.1.natAbs : Int) < 1)
            omega
          by_cases e11 : szN N = (1, 1)
          · exfalso
            unfold wds at e
            rw [if_pos e11] at e
            have e2 := (List.cons.inj (List.cons.inj e).2).1
            have e3 : tl a = tl b := e2
            have ec' : fL (szN N) = c :: t := ec
            rw [ez, ec'] at e3
            have e4 := hx.2.2 c (show c ∈ tl b by rw [← e3]; exact List.mem_cons_self)
            omega
          · simp only [n1, e11, hs.2, false_or, and_false, if_false]
            exact ⟨trivial, by simp⟩
/-! ### all words -/
def ltT (a b : Str) : Prop := ltCps a.cps.toList b.cps.toList = true
theorem ltT_not : ∀ (a b : List Nat), ltCps a b = true → ltCps b a = false
  | [], [], h => by simp [ltCps] at h
  | [], _ :: _, _ => rfl
  | _ :: _, [], h => by simp [ltCps] at h
  | a :: as, b :: bs, h => by
    have ih := ltT_not as bs
    simp only [ltCps, Bool.or_eq_true, decide_eq_true_eq, Bool.and_eq_true, beq_iff_eq, Bool.or_eq_false_iff, decide_eq_false_iff_not, Bool.and_eq_false_imp] at h ⊢
    rcases h with h | h
    · exact ⟨by omega, fun e => by omega⟩
    · exact ⟨by omega, fun _ => ih h.2⟩
theorem ltT_trans {a b c : Str} (h1 : ltT a b) (h2 : ltT b c) : ltT a c := by
  unfold ltT at *
  cases e : ltCps a.cps.toList c.cps.toList with
  | true => rfl
  | false =>
    have z := nlt_trans _ _ _ e (ltT_not _ _ h1)
    rw [h2] at z
    cases z
theorem ltT_irr (a : Str) : ¬ ltT a a := fun h => by
  have z := ltT_not _ _ h
  unfold ltT at h
  rw [h] at z
  cases z
noncomputable def wofT (p : Str × (Int × Int)) : List (List Nat) := wds p.1 p.2
theorem walkT_ok : ∀ (n : Nat) (prev pr2 : Option Str) (ws : List Str) (ps : List (Str × (Int × Int))), walkT true n prev ws = some ps →
    walkT false n pr2 ws = some ps ∧ ws.map tl = ps.flatMap wofT ∧ (∀ p ∈ ps, NmOk p.1 ∧ Fg p.2 ∧ p.2.1 ≠ 0) ∧ (ps.map (·.1)).Pairwise ltT ∧ ∀ q, prev = some q → ∀ p ∈ ps, ltT q p.1
  | n, prev, pr2, [], ps, h => by
    have e : ps = [] := by
      cases n <;> exact (Option.some.inj h).symm
    subst e
    refine ⟨by cases n <;> rfl, rfl, fun p hp => (by cases hp), List.Pairwise.nil, fun q _ p hp => by cases hp⟩
  | 0, _, _, _ :: _, _, h => by cases h
  | n + 1, prev, pr2, w :: ws, ps, h => by
    unfold walkT at h ⊢
    cases hr : rterm true (w :: ws) with
    | none =>
      rw [hr] at h
      cases h
    | some pr =>
      obtain ⟨p, r⟩ := pr
      rw [hr] at h
      simp only [] at h
      split at h
      · cases h
      · rename_i hc
        cases hw : walkT true n (some p.1) r with
        | none =>
          rw [hw] at h
          cases h
        | some ps' =>
          rw [hw] at h
          obtain rfl := (Option.some.inj h).symm
          obtain ⟨k1, k2, k3, k4, k5⟩ := lterm_ok hr
          obtain ⟨i1, i2, i3, i4, i5⟩ := walkT_ok n (some p.1) (some p.1) r ps' hw
          have pq : ∀ q, prev = some q → ltT q p.1 := fun q hq => by
            unfold ltT
            cases e : ltCps q.cps.toList p.1.cps.toList with
            | true => rfl
            | false => exact absurd ⟨trivial, q, hq, e⟩ hc
          refine ⟨?_, ?_, fun x hx => ?_, ?_, fun q hq x hx => ?_⟩
          · rw [k1]
            simp only [Bool.false_eq_true, false_and, if_false]
            rw [i1]
          · rw [k2, i2, List.flatMap_cons]
            rfl
          · rcases List.mem_cons.mp hx with z | z
            · rw [z]
              exact ⟨k3, k4, k5⟩
            · exact i3 x z
          · rw [List.map_cons]
            refine List.pairwise_cons.mpr ⟨fun y hy => ?_, i4⟩
            obtain ⟨x, hx, rfl⟩ := List.mem_map.mp hy
            exact i5 p.1 rfl x hx
          · rcases List.mem_cons.mp hx with z | z
            · rw [z]
              exact pq q hq
            · exact ltT_trans (pq q hq) (i5 p.1 rfl x z)
theorem walkT_of : ∀ (ps : List (Str × (Int × Int))) (n : Nat) (prev pr2 : Option Str) (ws : List Str), (∀ p ∈ ps, NmOk p.1 ∧ p.2.1 ≠ 0) → (ps.map (·.1)).Pairwise ltT → (∀ q, prev = some q → ∀ p ∈ ps, ltT q p.1) → ws.map tl = ps.flatMap wofT → walkT false n pr2 ws ≠ none → walkT true n prev ws = some ps
  | [], n, prev, pr2, ws, _, _, _, e, _ => by
    have z : ws = [] := by
      cases ws with
      | nil => rfl
      | cons a b => cases e
    rw [z]
    cases n <;> rfl
  | p :: ps, n, prev, pr2, ws, hp, hi, hq, e, h => by
    obtain ⟨t, e1, _⟩ := wds_text p.1 p.2
    cases ws with
    | nil =>
      rw [List.flatMap_cons] at e
      unfold wofT at e
      rw [e1] at e
      cases e
    | cons w ws =>
      cases n with
      | zero => exact absurd rfl h
      | succ n =>
        obtain ⟨r, er⟩ : ∃ r : List Str, r.map tl = ps.flatMap wofT := ⟨(ps.flatMap wofT).map fun c => ⟨c.toArray⟩, by rw [List.map_map]; exact List.map_id' _⟩
        have e2 : (w :: ws).map tl = wds p.1 p.2 ++ r.map tl := by
          rw [e, List.flatMap_cons, er]
          rfl
        have h1 : rterm false (w :: ws) ≠ none := fun z => by
          unfold walkT at h
          rw [z] at h
          exact h rfl
        obtain ⟨k1, k2⟩ := lterm_of (hp p List.mem_cons_self).1 (hp p List.mem_cons_self).2 e2 h1
        have hi' := List.pairwise_cons.mp (by rw [List.map_cons] at hi; exact hi)
        unfold walkT at h ⊢
        rw [k2] at h
        rw [k1]
        simp only [Bool.false_eq_true, false_and, if_false] at h
        have i := walkT_of ps n (some p.1) (some p.1) r (fun x hx => hp x (List.mem_cons_of_mem _ hx)) hi'.2 (fun q hq x hx => by
          obtain rfl := Option.some.inj hq
          exact hi'.1 x.1 (List.mem_map.mpr ⟨x, hx, rfl⟩)) er (fun z => h (by show (match walkT false n (some p.1) r with | none => none | some ps => some (p :: ps)) = none; rw [z]))
        have nc : ¬ (true = true ∧ ∃ q, prev = some q ∧ ltCps q.cps.toList p.1.cps.toList = false) := fun ⟨_, q, hq', z⟩ => by
          have y := hq q hq' p List.mem_cons_self
          unfold ltT at y
          rw [y] at z
          cases z
        show (if true = true ∧ (∃ q, prev = some q ∧ ltCps q.cps.toList p.1.cps.toList = false) then none else (match walkT true n (some p.1) r with | none => none | some ps => some (p :: ps))) = _
        rw [if_neg nc, i]
/-- the entries, one after another -/
def prs (f : Key → Int × Int) (ys : List Str) : List (Str × (Int × Int)) := ys.map fun y => (y, f (.inr y))
open Classical in
theorem tot_prs {f : Key → Int × Int} {B : Nat} (ok : ∀ k, Okb B (f k)) : ∀ (n : Nat) (ys : List Str), ys.length = n → ys.Nodup → ∀ k, tot (prs f ys) k = if k ∈ ys.map Sum.inr then f k else (0, 1)
  | 0, ys, e, _, k => by
    rw [List.length_eq_zero_iff.mp e]
    exact (if_neg List.not_mem_nil).symm
  | n + 1, ys, e, nd, k => by
    obtain ⟨zs, y, rfl⟩ : ∃ zs y, ys = zs ++ [y] := by
      have ne : ys ≠ [] := fun z => by rw [z] at e; cases e
      exact ⟨ys.dropLast, ys.getLast ne, (List.dropLast_concat_getLast ne).symm⟩
    have zl : zs.length = n := by
      rw [List.length_append] at e
      exact Nat.succ.inj e
    have nd' := List.nodup_append.mp nd
    have ny : y ∉ zs := fun z => nd'.2.2 y z y List.mem_cons_self rfl
    have ih := tot_prs ok n zs zl nd'.1 k
    have et : tot (prs f (zs ++ [y])) = tstep (tot (prs f zs)) (y, f (.inr y)) := by
      unfold prs
      rw [List.map_append]
      exact tot_snoc _ _
    rw [et]
    unfold tstep
    rw [List.map_append]
    by_cases c : k = .inr y
    · rw [if_pos c, if_pos (List.mem_append_right _ (by rw [c]; exact List.mem_cons_self)), ih, if_neg, c]
      · exact zero_fplus (ok _)
      · rw [c]
        intro z
        obtain ⟨u, hu, eu⟩ := List.mem_map.mp z
        exact ny (by rw [← Sum.inr.inj eu]; exact hu)
    · rw [if_neg c, ih]
      by_cases d : k ∈ zs.map Sum.inr
      · rw [if_pos d, if_pos (List.mem_append_left _ d)]
      · rw [if_neg d, if_neg]
        intro z
        rcases List.mem_append.mp z with z | z
        · exact d z
        · exact c (List.mem_singleton.mp z)
theorem tot_sk {f : Key → Int × Int} {ys : List Str} (sk : SK f ys) {B : Nat} (g : ∀ k, Okb B (f k)) (hz : ∀ i, f (.inl i) = (0, 1)) : tot (prs f ys) = f := by
  funext k
  rw [tot_prs (g) _ ys rfl sk.2.1]
  split
  · rfl
  · rename_i c
    cases k with
    | inl i => exact (hz i).symm
    | inr x =>
      refine (okb_top0 (g _) ?_).symm
      exact Classical.byContradiction fun z => c (List.mem_map.mpr ⟨x, (sk.2.2.1 x).mpr z, rfl⟩)
/-! the sum -/
def fOf (ps : List (Str × (Int × Int))) : Key → Int × Int
  | .inl _ => (0, 1)
  | .inr x => ((ps.find? fun p => decide (p.1 = x)).map (·.2)).getD (0, 1)
theorem fOf_mem {ps : List (Str × (Int × Int))} (nd : (ps.map (·.1)).Nodup) {p : Str × (Int × Int)} (hp : p ∈ ps) : fOf ps (.inr p.1) = p.2 := by
  induction ps with
  | nil => cases hp
  | cons a r ih =>
    have nd' := List.nodup_cons.mp (by rw [List.map_cons] at nd; exact nd)
    show ((List.find? (fun q => decide (q.1 = p.1)) (a :: r)).map (·.2)).getD (0, 1) = p.2
    rw [List.find?_cons]
    by_cases c : a.1 = p.1
    · rw [decide_eq_true c]
      rcases List.mem_cons.mp hp with z | z
      · rw [z]
        rfl
      · exact absurd (by rw [c]; exact List.mem_map.mpr ⟨p, z, rfl⟩) nd'.1
    · rw [decide_eq_false c]
      rcases List.mem_cons.mp hp with z | z
      · exact absurd (by rw [z]) c
      · exact ih nd'.2 z
theorem fOf_out {ps : List (Str × (Int × Int))} {x : Str} (h : x ∉ ps.map (·.1)) : fOf ps (.inr x) = (0, 1) := by
  show ((List.find? (fun q => decide (q.1 = x)) ps).map (·.2)).getD (0, 1) = _
  have e : List.find? (fun q : Str × (Int × Int) => decide (q.1 = x)) ps = none := List.find?_eq_none.mpr fun q hq z => h (by
    rw [← of_decide_eq_true z]
    exact List.mem_map.mpr ⟨q, hq, rfl⟩)
  rw [e]
  rfl
theorem prs_fOf {ps : List (Str × (Int × Int))} (nd : (ps.map (·.1)).Nodup) : prs (fOf ps) (ps.map (·.1)) = ps := by
  unfold prs
  rw [List.map_map]
  refine (List.map_congr_left fun p hp => ?_).trans (List.map_id' ps)
  show (p.1, fOf ps (.inr p.1)) = p
  rw [fOf_mem nd hp]
theorem sk_fOf {ps : List (Str × (Int × Int))} (hi : (ps.map (·.1)).Pairwise ltT) (hp : ∀ p ∈ ps, NmOk p.1 ∧ p.2.1 ≠ 0) : SK (fOf ps) (ps.map (·.1)) ∧ (ps.map (·.1)).Nodup := by
  have nd : (ps.map (·.1)).Nodup := List.Pairwise.imp (R := ltT) (S := (· ≠ ·)) (fun {a b} h e => ltT_irr b (by rw [e] at h; exact h)) hi
  refine ⟨⟨?_, nd, fun x => ⟨fun z => ?_, fun z => ?_⟩, fun x hx => ?_⟩, nd⟩
  · have hl : (ps.map (·.1)).Pairwise (fun a b => ltCps b.cps.toList a.cps.toList = false) := hi.imp fun h => ltT_not _ _ h
    generalize ps.map (·.1) = l at hl
    cases l with
    | nil => rfl
    | cons a r => exact risingS_of_pairwise a r hl
  · obtain ⟨p, hpm, rfl⟩ := List.mem_map.mp z
    rw [fOf_mem nd hpm]
    exact (hp p hpm).2
  · exact Classical.byContradiction fun y => z (by rw [fOf_out y])
  · obtain ⟨p, hpm, rfl⟩ := List.mem_map.mp hx
    exact (hp p hpm).1
theorem fOf_all {ps : List (Str × (Int × Int))} {Pr : Int × Int → Prop} (h0 : Pr (0, 1)) (h : ∀ p ∈ ps, Pr p.2) : ∀ k, Pr (fOf ps k) := fun k => by
  cases k with
  | inl i => exact h0
  | inr x =>
    show Pr (((List.find? (fun q => decide (q.1 = x)) ps).map (·.2)).getD (0, 1))
    cases e : List.find? (fun q : Str × (Int × Int) => decide (q.1 = x)) ps with
    | none => exact h0
    | some q => exact h q (List.mem_of_find?_eq_some e)
theorem allW_prs (f : Key → Int × Int) (ys : List Str) : allW f ys = (prs f ys).flatMap wofT := by
  unfold allW prs
  rw [List.flatMap_map]
  rfl
/-- what a text reads as: the law's way -/
noncomputable def outS (x : Str) : Option (List (Str × (Int × Int))) := if x = "0" then some [] else walkT true (wdsP x).length none (wdsP x)
theorem sg_same {f : Key → Int × Int} {y : Str} {r : List Str} {x : Str} (hy : NmOk y) (e : sumL f (y :: r) = tl x) : joinL [32] (allW f (y :: r)) = joinL [32] ((wdsP x).map tl) := by
  obtain ⟨n1, n2⟩ := sumL_neg (f := f) (r := r) hy
  rw [wdsP_join, ← n2, e]
  rw [e] at n1
  unfold sgC sgCh
  rw [n1]
  by_cases c : (f (.inr y)).1 < 0
  · rw [if_pos c, decide_eq_true c, if_pos rfl]
  · rw [if_neg c, decide_eq_false c, if_neg Bool.false_ne_true]
theorem wdsP_no (x : Str) : (wdsP x).map tl ≠ [] ∧ ∀ p ∈ (wdsP x).map tl, 32 ∉ p := by
  rw [wdsP_tl]
  refine ⟨by simp, fun p hp => ?_⟩
  rcases List.mem_cons.mp hp with z | z
  · rw [z]
    unfold sgCh
    split <;> decide
  · exact ((join_spl _ (bare (tl x)) (Nat.le_refl _)).2.1 p z).1
theorem outS_some {x : Str} {ps : List (Str × (Int × Int))} (h : outS x = some ps) : SK (fOf ps) (ps.map (·.1)) ∧ (ps.map (·.1)).Nodup ∧ (∀ p ∈ ps, NmOk p.1 ∧ Fg p.2 ∧ p.2.1 ≠ 0) ∧ tl x = sumL (fOf ps) (ps.map (·.1)) ∧ (x = "0" ∨ (x ≠ "0" ∧ ∀ pr, walkT false (wdsP x).length pr (wdsP x) = some ps)) := by
  unfold outS at h
  by_cases c : x = "0"
  · rw [if_pos c] at h
    obtain rfl := (Option.some.inj h).symm
    obtain ⟨s1, s2⟩ := sk_fOf (ps := []) List.Pairwise.nil (fun p hp => by cases hp)
    refine ⟨s1, s2, fun p hp => (by cases hp), ?_, .inl c⟩
    rw [c]
    show tl ("0" : Str) = [48]
    decide
  · rw [if_neg c] at h
    obtain ⟨_, k2, k3, k4, _⟩ := walkT_ok _ _ none _ _ h
    obtain ⟨s1, s2⟩ := sk_fOf k4 (fun p hp => ⟨(k3 p hp).1, (k3 p hp).2.2⟩)
    refine ⟨s1, s2, k3, ?_, .inr ⟨c, fun pr => (walkT_ok _ _ pr _ _ h).1⟩⟩
    have ea : (wdsP x).map tl = allW (fOf ps) (ps.map (·.1)) := by
      rw [k2, allW_prs, prs_fOf s2]
    cases hps : ps with
    | nil =>
      rw [hps] at k2
      exact absurd k2 (wdsP_no x).1
    | cons p r =>
      rw [← hps]
      have hn : ps.map (·.1) = p.1 :: r.map (·.1) := by rw [hps]; rfl
      have hy := (k3 p (by rw [hps]; exact List.mem_cons_self)).1
      have j := wdsP_join x
      rw [ea, hn] at j
      obtain ⟨n1, n2⟩ := sumL_neg (f := fOf ps) (r := r.map (·.1)) hy
      rw [← n2] at j
      have j1 := (List.cons.inj j).1
      have j2 := (List.cons.inj (List.cons.inj j).2).2
      rw [hn]
      have e1 : ngB (sumL (fOf ps) (p.1 :: r.map (·.1))) = ngB (tl x) := by
        rw [n1]
        unfold sgC sgCh at j1
        by_cases d : (fOf ps (.inr p.1)).1 < 0
        · rw [if_pos d] at j1
          rw [decide_eq_true d]
          cases q : ngB (tl x) with
          | true => rfl
          | false =>
            rw [q] at j1
            exact absurd j1 (by decide)
        · rw [if_neg d] at j1
          rw [decide_eq_false d]
          cases q : ngB (tl x) with
          | false => rfl
          | true =>
            rw [q] at j1
            exact absurd j1 (by decide)
      rw [← lead_bare (tl x), ← lead_bare (sumL (fOf ps) (p.1 :: r.map (·.1))), e1, j2]
theorem outS_none {x : Str} (h : outS x = none) : x ≠ "0" ∧ ∀ pr ps', walkT false (wdsP x).length pr (wdsP x) = some ps' → ∀ f ys, SK f ys → sumL f ys ≠ tl x := by
  unfold outS at h
  by_cases c : x = "0"
  · rw [if_pos c] at h
    cases h
  · rw [if_neg c] at h
    refine ⟨c, fun pr ps' hw f ys sk e => ?_⟩
    cases ys with
    | nil =>
      refine c (ext_tl ?_)
      rw [← e]
      show ([48] : List Nat) = tl ("0" : Str)
      decide
    | cons y r =>
      have j := sg_same (sk.2.2.2 y List.mem_cons_self) e
      have a1 := allW_split (f := f) (ys := y :: r) (by simp) sk.2.2.2
      have a2 := spl_join (s := 32) (S := []) (wdsP_no x).1 (wdsP_no x).2
      rw [← j, a1] at a2
      have srt : ((prs f (y :: r)).map (·.1)).Pairwise ltT := by
        have e1 : (prs f (y :: r)).map (·.1) = y :: r := by
          unfold prs
          rw [List.map_map]
          exact List.map_id' _
        rw [e1]
        have z := sorted_pw sk.1
        have nd := sk.2.1
        refine (List.Pairwise.and z nd).imp fun {a b} ⟨h1, h2⟩ => ?_
        unfold ltT
        cases q : ltCps a.cps.toList b.cps.toList with
        | true => rfl
        | false => exact absurd (leT_antisymm h1 q) h2
      have hw2 := walkT_of (prs f (y :: r)) (wdsP x).length none pr (wdsP x) (fun p hp => by
        obtain ⟨u, hu, rfl⟩ := List.mem_map.mp hp
        exact ⟨sk.2.2.2 u hu, (sk.2.2.1 u).mp hu⟩) srt (fun q hq => by cases hq) (by rw [← a2, allW_prs]) (by rw [hw]; simp)
      rw [hw2] at h
      cases h
end SS
namespace SS
open PySem PySem.Spec PyProof.Rows L2 TL NumText PySem.StrLaws
theorem fold_few (x : Str) : ∀ (l : List Nat) (st : Array Nat × Nat), st.1.size ≤ ((tl x).drop st.2).count 32 → (l.foldl (stepR x " " 2) st).1.size ≤ ((tl x).drop (l.foldl (stepR x " " 2) st).2).count 32
  | [], _, h => h
  | k :: l, st, h => by
    rw [List.foldl_cons]
    refine fold_few x l _ ?_
    unfold stepR
    split
    · rename_i c
      have z := (blank_at x _).mp c.2
      have c1 := c.1.2
      rw [len_blank] at c1
      generalize x.length - k = i at z c1
      rw [Array.size_push]
      obtain ⟨hl, e⟩ := List.getElem?_eq_some_iff.mp z
      show st.1.size + 1 ≤ ((tl x).drop i).count 32
      rw [List.drop_eq_getElem_cons hl, e, List.count_cons_self]
      have s : ((tl x).drop st.2).count 32 ≤ ((tl x).drop (i + 1)).count 32 := by
        obtain ⟨d, ed⟩ : ∃ d, st.2 = i + 1 + d := ⟨st.2 - (i + 1), by omega⟩
        rw [ed, ← List.drop_drop]
        exact (List.drop_sublist _ _).count_le _
      omega
    · exact h
theorem rsplit_few {x : Str} (h : (tl x).count 32 ≤ 1) : (Txt.rsplitMax x " " 2).length ≤ 2 := by
  have o : (Builtin.Str.occurrencesFromRight x " " 2).length ≤ 1 := by
    rw [occR_eq, occR_fold]
    have z := fold_few x (List.range' 0 (x.length + 1)) (#[], x.length) (by show 0 ≤ _; exact Nat.zero_le _)
    generalize (List.range' 0 (x.length + 1)).foldl (stepR x " " 2) (#[], x.length) = st at z ⊢
    have s : ((tl x).drop st.2).count 32 ≤ (tl x).count 32 := (List.drop_sublist _ _).count_le _
    have r : (st.1.toList.reverse).length = st.1.size := by rw [List.length_reverse, Array.length_toList]
    first
      | (show (st.1.toList.reverse).length ≤ 1; omega)
      | (simp; omega)
  unfold Txt.rsplitMax
  have el : limitOf x 2 = 2 := rfl
  split
  · show 1 ≤ 2; decide
  · rw [el]
    split
    · show 1 ≤ 2; decide
    · rw [partsBetween_eq]
      generalize Builtin.Str.occurrencesFromRight x " " 2 = l at o
      match l, o with
      | [], _ => show 1 ≤ 2; decide
      | [_], _ => show 2 ≤ 2; decide
      | _ :: _ :: _, o => simp at o
end SS
namespace SS
open PySem PySem.Spec PyProof.Rows L2 TL NumText
theorem neg_frI {M : Int × Int} {B : Nat} (h : Okb B M) : fr1 (M.1 * -1) (M.2 * 1) = -M.1 ∧ fr2 (M.1 * -1) (M.2 * 1) = M.2 := by
  have g : Int.gcd (M.1 * -1) (M.2 * 1) = 1 := by
    rw [Int.mul_one, Int.mul_neg, Int.mul_one, Int.neg_gcd]
    exact h.2.2.2
  have e : sgd (M.1 * -1) (M.2 * 1) = 1 := by
    unfold sgd
    rw [g, if_neg (by have := h.1; omega)]
    rfl
  unfold fr1 fr2
  rw [e, Int.fdiv_one, Int.fdiv_one]
  omega
theorem isSg_inV (s : Str) : inV (.str s) [.str "+", .str "-"] = isSgB s := by
  unfold isSgB inV
  by_cases c : s = "+"
  · rw [c]; decide
  · by_cases d : s = "-"
    · rw [d]; decide
    · rw [decide_eq_false c, decide_eq_false d]
      have c' : V.str s ≠ V.str "+" := fun z => c (V.str.inj z)
      have d' : V.str s ≠ V.str "-" := fun z => d (V.str.inj z)
      simp [c', d']
      exact ⟨decide_eq_false fun z => c (z.symm), decide_eq_false fun z => d (z.symm)⟩
theorem okb_sgnd {s : Str} {M : Int × Int} {B : Nat} (h : Okb B M) : Okb B (sgnd s M) := by
  unfold sgnd
  split
  · exact h
  · refine ⟨h.1, by show (-M.1).natAbs < _; rw [Int.natAbs_neg]; exact h.2.1, h.2.2.1, by show Int.gcd (-M.1) M.2 = 1; rw [Int.neg_gcd]; exact h.2.2.2⟩
theorem rt_nosg {all : Bool} {s : Str} {zs : List Str} (h : isSgB s = false) : rterm all (s :: zs) = none := by
  cases zs with
  | nil => rfl
  | cons a r => simp [rterm, h]
theorem rt_nm {all : Bool} {s a : Str} {r : List Str} (h : isSgB s = true) (na : NmOk a) : rterm all (s :: a :: r) = some ((a, sgnd s (1, 1)), r) := by
  simp [rterm, h, na]
theorem rt_one {all : Bool} {s a : Str} (na : ¬ NmOk a) : rterm all [s, a] = none := by
  simp [rterm, na]
theorem rt_no {all : Bool} {s a b : Str} {r : List Str} (na : ¬ NmOk a) (nb : ¬ NmOk b) : rterm all (s :: a :: b :: r) = none := by
  simp [rterm, na, nb]
theorem rt_rd {s a b : Str} {r : List Str} (h : isSgB s = true) (na : ¬ NmOk a) (nb : NmOk b) : rterm false (s :: a :: b :: r) = match rd (tl a) with | some M => some ((b, sgnd s M), r) | none => none := by
  simp [rterm, h, na, nb]
  all_goals (cases rd (tl a) <;> rfl)
theorem rt_rdL {s a b : Str} {r : List Str} (h : isSgB s = true) (na : ¬ NmOk a) (nb : NmOk b) : rterm true (s :: a :: b :: r) = match rd (tl a) with | some M => if M.1 < 1 ∨ M = (1, 1) then none else some ((b, sgnd s M), r) | none => none := by
  simp [rterm, h, na, nb]
  all_goals
    cases rd (tl a) with
    | none => rfl
    | some M =>
      show ite _ _ _ = ite _ _ _
      congr
section
variable {P : Program} {w : World} {K : PySem.W.Frag} {mg : Str → Option Value} {base : Heap}
def spRdG (K : PySem.W.Frag) (T : List Addr) (C : Addr) : Sp := fun vs H Q E => ∃ (l : Addr) (ws : List Str), vs = [.ref l] ∧ H l = some (.lst (ws.map V.str)) ∧ ws ≠ [] ∧ ws.length ≤ 900 ∧ (∀ z ∈ ws, z.length ≤ 1000) ∧ Tabs T H ∧
  (∀ p r, rterm false ws = some (p, r) → ∀ H' t pr nm l', SameT T H H' → H' t = some (.tup [.ref pr, .ref l']) → H' pr = some (.tup [.str p.1, .ref nm]) → FrT K H' nm p.2.1 p.2.2 → NmOk p.1 → Okb 100 p.2 → H' l' = some (.lst (r.map V.str)) → H l' = none → Q (.ref t) H') ∧ (rterm false ws = none → ∀ H', SameT T H H' → E (.ref C) none H')
theorem scRdT : FnScope ["words", "sign", "rest", "at", "size"] ["words"] (defScope sRdT) := ⟨rfl, rfl, rfl, by decide +kernel, rfl, by decide +kernel, by decide +kernel⟩
set_option maxHeartbeats 4000000 in
theorem ok_rdg {f' C aO aM : Addr} {fd : FuncData} {T : List Addr} (F : Fun K "read_term" "read_term" sRdT f' fd) (X : ExT K mg "NoText" C) (ml : mg "len" = none) (gO : mg "ONE" = some (.ref aO)) (hO : ∀ H, FrT K H aO 1 1) (gM : mg "MINUS_ONE" = some (.ref aM)) (hM : ∀ H, FrT K H aM (-1) 1)
    (fu : Cl P w K mg base CX0 3 "fits_unknown" (spFUnk K T) []) (rf : Cl P w K mg base (L2.CX P w) 4 "read_fraction" (spRdF T C) []) (tm : Cl P w K mg base CX0 3 "times" (spTimes K) []) : FnOk P w K mg base (L2.CX P w) 5 f' fd ["words"] (spRdG K T C) := by
  refine F.okX scRdT (fun vs H Q E h => ?_) (fun cdv A outer s H vs Q E hr h => ?_)
  · obtain ⟨_, _, rfl, _⟩ := h
    rfl
  · obtain ⟨l, ws, rfl, hl, wne, wl, wz, ht, q1, q0⟩ := h
    refine ⟨_, pss_cons (ps_asg (pv 0) (pg_star rfl (pgs_cons (pg_name (i := 1) scRdT.nd rfl (.inl rfl)) (pgs_cons (pg_name (i := 2) scRdT.nd rfl (.inl rfl)) pgs_nil))))
      (pss_cons (ps_set (i := 3) scRdT.nd rfl (.inl rfl) (pe_ifExp (PW.pt (pw_and (pt_truth (pv 2) (by intro _; rfl)) (pw_and1 (pt_val (pc0 fu hr (by decide) (pa_cons (pe_ix ix_list (pv 2) pe_int (fun _ _ => rfl)) pa_nil)))))) pe_int pe_int))
      (pss_cons (ps_if (PW.pt (pw_or (pt_cmpR op_notIn_seq (pv 1) (pe_tup (pa_cons pe_str (pa_cons pe_str pa_nil))) rfl) (pw_or (pt_cmpR op_le (pe_callB call_len_seq (by rfl) ml PySem.boot_len (pa_cons (pv 2) pa_nil)) (pv 3) (nomark _)) (pw_or1 (pt_not (pt_val (pc0 fu hr (by decide) (pa_cons (pe_ix ix_list (pv 2) (pv 3) (fun _ _ => rfl)) pa_nil))))))))
        (pss_one (ps_raise rfl (takes_of rfl rfl rfl rfl) (pmk_own PySem.F.excBase_ValueError X.xC X.gC X.kC (raises_own X.bC X.tC) (by exact rfl)))) pss_nil)
      (pss_cons (ps_set (i := 4) scRdT.nd rfl (.inl rfl) (pe_ifExp (pt_cmpR op_eq (pv 3) pe_int (nomark _)) (pe_glob (v := .ref aO) (by rfl) gO rfl) (pcS rf hr (by decide) (fun σ => passAt (takes_of rfl rfl rfl rfl) σ) (pa_cons (pe_ix ix_list (pv 2) pe_int (fun _ _ => rfl)) pa_nil))))
      (pss_one (ps_ret (pe_tup (pa_cons (pe_tup (pa_cons (pe_ix ix_list (pv 2) (pv 3) (fun _ _ => rfl)) (pa_cons (pe_ifExp (pt_cmpR op_eq (pv 1) pe_str (nomark _)) (pv 4) (pc0 tm hr (by decide) (pa_cons (pv 4) (pa_cons (pe_glob (v := .ref aM) (by rfl) gM rfl) pa_nil)))) pa_nil))) (pa_cons (pe_slice sl_list (pv 2) (po_some (pe_op op_add (pv 3) pe_int)) po_none) pa_nil)))))))), ?_⟩
    obtain ⟨sn, zs, rfl⟩ := List.exists_cons_of_ne_nil wne
    have zl : zs.length ≤ 900 := by
      rw [List.length_cons] at wl
      omega
    refine ⟨_, rfl, l, .str sn, zs.map V.str, rfl, SqL.of hl, by rw [List.length_map]; omega, fun R nR => ⟨_, _, rfl, _, _, rfl, rfl, ?_⟩⟩
    have sR := same_new (o := .lst (zs.map V.str)) nR
    have hR := upd_same (H := H) (a := R) (o := .lst (zs.map V.str))
    have t0 := SameT.of ht sR
    generalize upd H R (.lst (zs.map V.str)) = H1 at hR t0 ⊢
    have zz : ∀ z ∈ zs, z.length ≤ 1000 := fun z hz => wz z (List.mem_cons_of_mem _ hz)
    have nmb : ∀ (H' : Hp) (z : Str) (b : Bool), z ∈ zs → (b = true ↔ NmOk z) → NmB K H' (.str z) b := fun H' z b hz hb => .inl ⟨z, rfl, zz z hz, by
      cases b with
      | true => exact (decide_eq_true (hb.mp rfl)).symm
      | false => exact (decide_eq_false fun h => by cases hb.mpr h).symm⟩
    refine' mid (C := _) (Inv := fun σ H' => ∃ j : Nat, σ = [some (.ref l), some (.str sn), some (.ref R), some (.int (j : Int)), none] ∧ SameT T H H' ∧ H' R = some (.lst (zs.map V.str)) ∧ ((j = 0 ∧ ∃ a r, zs = a :: r ∧ NmOk a) ∨ (j = 1 ∧ (zs = [] ∨ ∃ a r, zs = a :: r ∧ ¬ NmOk a)))) (fun key => ?main) ?cont
    case main =>
      refine ⟨_, rfl, _, .inl ⟨_, SqL.of hR, rfl⟩, ?_⟩
      have hzs : zs = [] ∨ ∃ a r, zs = a :: r := by
        cases zs with
        | nil => exact .inl rfl
        | cons a r => exact .inr ⟨a, r, rfl⟩
      rcases hzs with ez | ⟨a, r, ez⟩
      · have zt : (!(zs.map V.str).isEmpty) = false := by rw [ez]; rfl
        rw [zt]
        refine iteF (iteF ?_)
        dsimp only [tC, gName]
        exact key _ _ ⟨1, rfl, t0, hR, .inr ⟨rfl, .inl ez⟩⟩
      · have zt : (!(zs.map V.str).isEmpty) = true := by rw [ez]; rfl
        rw [zt]
        have hav : atI (zs.map V.str) ((0 : Nat) : Int) = some (.str a) := by rw [ez]; exact atI_nat rfl
        have am : a ∈ zs := by rw [ez]; exact List.mem_cons_self
        by_cases na : NmOk a
        · refine iteT ⟨_, rfl, R, _, 0, _, rfl, rfl, SqL.of hR, hav, .str a, true, rfl, nmb _ a true am ⟨fun _ => na, fun _ => rfl⟩, t0.tab, fun H2 s2 => ⟨_, rfl, iteT ?_⟩⟩
          dsimp only [tC, gName]
          exact key _ _ ⟨0, rfl, t0.trans s2, s2.ext _ _ hR (fun ps z => by cases z), .inl ⟨rfl, a, r, ez, na⟩⟩
        · refine iteT ⟨_, rfl, R, _, 0, _, rfl, rfl, SqL.of hR, hav, .str a, false, rfl, nmb _ a false am ⟨fun z => (by cases z), fun z => absurd z na⟩, t0.tab, fun H2 s2 => ⟨_, rfl, iteF ?_⟩⟩
          dsimp only [tC, gName]
          exact key _ _ ⟨1, rfl, t0.trans s2, s2.ext _ _ hR (fun ps z => by cases z), .inr ⟨rfl, .inr ⟨a, r, ez, na⟩⟩⟩
    case cont =>
      rintro σ H2 ⟨j, rfl, t2, hR2, hj⟩
      refine ⟨_, rfl, small2, fun U nU => ?_⟩
      have sU := same_new (o := .tup [.str "+", .str "-"]) nU
      have hU := upd_same (H := H2) (a := U) (o := .tup [.str "+", .str "-"])
      replace t2 := t2.trans (SameT.of t2.tab sU)
      replace hR2 := sU _ _ hR2
      generalize upd H2 U (.tup [.str "+", .str "-"]) = H3 at hU t2 hR2 ⊢
      refine ⟨U, _, rfl, .inr (SqT.of hU), rfl, rfl, ?_⟩
      rw [isSg_inV]
      cases sg : isSgB sn with
      | false =>
        refine ⟨_, rfl, iteT ?_⟩
        refine q0 ?_ _ t2
        exact rt_nosg sg
      | true =>
      refine ⟨_, rfl, iteF ?_⟩
      have el : ((zs.map V.str).length : Int) = (zs.length : Int) := by rw [List.length_map]
      refine ⟨_, rfl, R, _, rfl, .inl (SqL.of hR2), _, rfl, (zs.length : Int), (j : Int), congrArg V.int el, rfl, _, rfl, ite2 (fun z => ?_) (fun z => ?_)⟩
      · have z' : (zs.length : Int) ≤ (j : Int) := of_decide_eq_true z
        refine q0 ?_ _ t2
        rcases hj with ⟨rfl, a, r, rfl, na⟩ | ⟨rfl, rfl | ⟨a, r, rfl, na⟩⟩
        · rw [List.length_cons] at z'
          omega
        · rfl
        · cases r with
          | nil => exact rt_one na
          | cons b r =>
            rw [List.length_cons, List.length_cons] at z'
            omega
      have jl : j < zs.length := Classical.byContradiction fun y => z (decide_eq_true (by show (zs.length : Int) ≤ (j : Int); omega))
      obtain ⟨y, hy⟩ : ∃ y, zs[j]? = some y := ⟨_, List.getElem?_eq_getElem jl⟩
      have ym : y ∈ zs := List.mem_of_getElem? hy
      have hjv : atI (zs.map V.str) (j : Int) = some (.str y) := atI_nat (by rw [List.getElem?_map, hy]; rfl)
      by_cases ny : NmOk y
      rotate_left
      · refine ⟨_, rfl, _, rfl, R, _, _, _, rfl, rfl, SqL.of hR2, hjv, .str y, false, rfl, nmb _ y false ym ⟨fun z => (by cases z), fun z => absurd z ny⟩, t2.tab, fun H4 s4 => ⟨_, rfl, iteT ?_⟩⟩
        refine q0 ?_ _ (t2.trans s4)
        rcases hj with ⟨rfl, a, r, rfl, na⟩ | ⟨rfl, rfl | ⟨a, r, rfl, na⟩⟩
        · exact absurd na (by rw [Option.some.inj hy]; exact ny)
        · cases hy
        · cases r with
          | nil => cases hy
          | cons b r =>
            obtain rfl : b = y := Option.some.inj hy
            exact rt_no na ny
      refine ⟨_, rfl, _, rfl, R, _, _, _, rfl, rfl, SqL.of hR2, hjv, .str y, true, rfl, nmb _ y true ym ⟨fun _ => ny, fun _ => rfl⟩, t2.tab, fun H4 s4 => ⟨_, rfl, iteF ?_⟩⟩
      replace t2 := t2.trans s4
      replace hR2 := s4.ext _ _ hR2 (fun ps z => by cases z)
      refine' mid (C := _) (Inv := fun σ H' => ∃ p4 M, σ = [some (.ref l), some (.str sn), some (.ref R), some (.int (j : Int)), some (.ref p4)] ∧ SameT T H H' ∧ H' R = some (.lst (zs.map V.str)) ∧ FrT K H' p4 M.1 M.2 ∧ Okb 100 M ∧ rterm false (sn :: zs) = some ((y, sgnd sn M), zs.drop (j + 1))) (fun key => ?main2) ?cont2
      case main2 =>
        rcases hj with ⟨ej, a, r, ez, na⟩ | ⟨ej, ez | ⟨a, r, ez, na⟩⟩
        · refine ⟨_, rfl, rfl, _, rfl, ite2 (fun _ => ?_) (fun z => absurd (decide_eq_true (by rw [ej]; rfl)) z)⟩
          dsimp only [tC, gName]
          refine key _ _ ⟨aO, (1, 1), rfl, t2, hR2, hO _, ⟨by decide, by decide, by decide, by decide⟩, ?_⟩
          rw [ej, ez] at hy
          obtain rfl : a = y := Option.some.inj hy
          rw [ez, ej]
          exact rt_nm sg na
        · rw [ez] at hy
          cases hy
        · obtain ⟨b, r', er'⟩ : ∃ b r', r = b :: r' := by
            cases r with
            | nil =>
              rw [ej, ez] at hy
              cases hy
            | cons b r' => exact ⟨b, r', rfl⟩
          have ez' : zs = a :: b :: r' := by rw [ez, er']
          have eb : b = y := by
            rw [ej, ez'] at hy
            exact Option.some.inj hy
          have er : ∀ o, rd (tl a) = o → rterm false (sn :: zs) = match (o : Option (Int × Int)) with | some M => some ((y, sgnd sn M), zs.drop (j + 1)) | none => none := fun o eo => by
            rw [ez', ej, ← eb]
            rw [rt_rd sg na (by rw [eb]; exact ny), eo]
            rfl
          refine ⟨_, rfl, rfl, _, rfl, ite2 (fun z => absurd (V.int.inj (of_decide_eq_true z)) (by rw [ej]; decide)) (fun _ => ?_)⟩
          have hzv : atI (zs.map V.str) ((0 : Nat) : Int) = some (.str a) := by rw [ez]; exact atI_nat rfl
          refine ⟨_, rfl, R, _, 0, _, rfl, rfl, SqL.of hR2, hzv, a, rfl, zz a (by rw [ez]; exact List.mem_cons_self), t2.tab, fun M hM' H5 p5 s5 np5 hp5 ok5 => ?_, fun z' H5 s5 => q0 (er _ z') _ (t2.trans s5)⟩
          dsimp only [gName]
          exact key _ _ ⟨p5, M, rfl, t2.trans s5, s5.ext _ _ hR2 (fun ps z => by cases z), FrT.of hp5, ok5, er _ hM'⟩
      case cont2 =>
        rintro σ H5 ⟨p4, M, rfl, t5, hR5, f5, okM, ert⟩
        refine ⟨_, rfl, _, rfl, R, _, _, _, rfl, rfl, SqL.of hR5, hjv, ?_⟩
        have cut : cutV (zs.map V.str) (some ((j : Int) + 1)) none = (zs.drop (j + 1)).map V.str := by
          have z := cutV_drop (zs.map V.str) (j + 1)
          rw [show ((j + 1 : Nat) : Int) = (j : Int) + 1 from rfl] at z
          rw [z, ← List.map_drop]
        have okS := okb_sgnd (s := sn) okM
        generalize hW : zs.drop (j + 1) = W at cut ert
        generalize hN : sgnd sn M = N at ert okS
        have fin : ∀ H6 nm, SameT T H H6 → H6 R = some (.lst (zs.map V.str)) → FrT K H6 nm N.1 N.2 → ∀ PR, H6 PR = none → ∀ L2, (upd H6 PR (.tup [.str y, .ref nm])) L2 = none → ∀ TT, (upd (upd H6 PR (.tup [.str y, .ref nm])) L2 (.lst (W.map V.str))) TT = none → Q (.ref TT) (upd (upd (upd H6 PR (.tup [.str y, .ref nm])) L2 (.lst (W.map V.str))) TT (.tup [.ref PR, .ref L2])) := fun H6 nm t6 hR6 f6 PR nPR L2 nL2 TT nTT => by
          have a1 := same_new (o := .tup [.str y, .ref nm]) nPR
          have a2 := same_new (o := .lst (W.map V.str)) nL2
          have a3 := same_new (o := .tup [.ref PR, .ref L2]) nTT
          have S := (a1.trans a2).trans a3
          exact q1 _ _ ert _ TT PR nm L2 (t6.trans (SameT.of t6.tab S)) upd_same (a3 _ _ (a2 _ _ upd_same)) (f6.new S) ny okS (a3 _ _ upd_same) (t6.free (a1.free nL2))
        refine ⟨_, rfl, rfl, _, rfl, ite2 (fun e => ?_) (fun e => ?_)⟩
        · have e' : sn = "+" := V.str.inj (of_decide_eq_true e)
          have eN : M = N := by
            rw [← hN]
            unfold sgnd
            rw [if_pos e']
          rw [eN] at f5
          refine ⟨_, rfl, small2, fun PR nPR => ?_⟩
          have a1 := same_new (o := .tup [.str y, .ref p4]) nPR
          refine ⟨_, rfl, _, rfl, (j : Int), 1, rfl, rfl, (j : Int) + 1, rfl, R, _, rfl, SqL.of (a1 _ _ hR5), fun L2 nL2 => ?_⟩
          rw [cut]
          exact ⟨small2, fun TT nTT => fin H5 p4 t5 hR5 f5 PR nPR L2 nL2 TT nTT⟩
        · have e' : sn ≠ "+" := fun z => e (decide_eq_true (congrArg V.str z))
          have eN : N = (-M.1, M.2) := by
            rw [← hN]
            unfold sgnd
            rw [if_neg e']
          refine ⟨_, rfl, M.1, M.2, -1, 1, two_okb (v := (-1, 1)) f5 (hM _) okM (⟨by decide, by decide, by decide, by decide⟩ : Okb 1 ((-1, 1) : Int × Int)) (by decide) (by decide), fun nm nnm => ?_⟩
          obtain ⟨e1, e2⟩ := neg_frI okM
          have a0 := same_new (o := .tup [.int (fr1 (M.1 * -1) (M.2 * 1)), .int (fr2 (M.1 * -1) (M.2 * 1))]) nnm
          have h6 := upd_same (H := H5) (a := nm) (o := .tup [.int (fr1 (M.1 * -1) (M.2 * 1)), .int (fr2 (M.1 * -1) (M.2 * 1))])
          have e1' : fr1 (M.1 * -1) (M.2 * 1) = N.1 := by rw [eN]; exact e1
          have e2' : fr2 (M.1 * -1) (M.2 * 1) = N.2 := by rw [eN]; exact e2
          rw [e1', e2'] at a0 h6 ⊢
          replace t5 := t5.trans (SameT.of t5.tab a0)
          replace hR5 := a0 _ _ hR5
          have f6 : FrT K _ nm N.1 N.2 := FrT.of h6
          generalize upd H5 nm (.tup [.int N.1, .int N.2]) = H6 at t5 hR5 f6 ⊢
          refine ⟨small2, fun PR nPR => ?_⟩
          have a1 := same_new (o := .tup [.str y, .ref nm]) nPR
          refine ⟨_, rfl, _, rfl, (j : Int), 1, rfl, rfl, (j : Int) + 1, rfl, R, _, rfl, SqL.of (a1 _ _ hR5), fun L2 nL2 => ?_⟩
          rw [cut]
          exact ⟨small2, fun TT nTT => fin H6 nm t5 hR5 f6 PR nPR L2 nL2 TT nTT⟩
end
end SS
namespace SS
open PySem PySem.Spec PyProof.Rows L2 TL NumText
theorem FrT.updL {K : PySem.W.Frag} {H : Hp} {D p : Addr} {xs : List V} {o : HO} {n d : Int} (h : FrT K H p n d) (hD : H D = some (.lst xs)) : FrT K (upd H D o) p n d := by
  obtain ⟨h1, h2⟩ := h
  have ne : ∀ o', H p = some o' → (∀ xs, o' ≠ .lst xs) → p ≠ D := fun o' e no z => by
    rw [z, hD] at e
    exact no _ (Option.some.inj e).symm
  rcases h1 with (h1 | ⟨o', h1⟩) | ⟨o', its, mm, k1, k2, k3⟩
  · exact FrT.of (by rw [upd_ne (ne _ h1 fun xs z => by cases z)]; exact h1)
  · have e : (upd H D o) p = _ := (upd_ne (ne _ h1 fun xs z => by cases z)).trans h1
    exact ⟨.inl (.inr ⟨o', e⟩), .fTuple e⟩
  · exact ⟨.inr ⟨o', its, mm, k1, k2, k3⟩, .kTuple k1 k2⟩

theorem PL.updL {K : PySem.W.Frag} {H : Hp} {D : Addr} {xs : List V} {o : HO} {rs : List Addr} {ps : List (Str × (Int × Int))} (h : PL K H rs ps) (hD : H D = some (.lst xs)) : PL K (upd H D o) rs ps := ⟨h.1, fun i r e => by
  obtain ⟨x, q, v, e1, e2, e3⟩ := h.2 i r e
  exact ⟨x, q, v, e1, keep_l hD _ _ e2, e3.updL hD⟩⟩
theorem PL.sameT {K : PySem.W.Frag} {T : List Addr} {H H' : Hp} {rs : List Addr} {ps : List (Str × (Int × Int))} (h : PL K H rs ps) (s : SameT T H H') : PL K H' rs ps := ⟨h.1, fun i r e => by
  obtain ⟨x, q, v, e1, e2, e3⟩ := h.2 i r e
  exact ⟨x, q, v, e1, s.ext _ _ e2 (fun ps z => by cases z), e3.ktl s.ktl⟩⟩
theorem PL.snocK {K : PySem.W.Frag} {H : Hp} {rs : List Addr} {ps : List (Str × (Int × Int))} {r q : Addr} {x : Str} {e : Int × Int} (h : PL K H rs ps) (h1 : H r = some (.tup [.str x, .ref q])) (h2 : FrT K H q e.1 e.2) : PL K H (rs ++ [r]) (ps ++ [(x, e)]) := by
  refine ⟨by rw [List.length_append, List.length_append, h.1]; rfl, fun i r' hi => ?_⟩
  by_cases c : i < rs.length
  · rw [List.getElem?_append_left c] at hi
    obtain ⟨x', q', v, e1, e2, e3⟩ := h.2 i r' hi
    refine ⟨x', q', v, ?_, e2, e3⟩
    rw [List.getElem?_append_left (by rw [← h.1]; exact c)]
    exact e1
  · have hl : i = rs.length := by
      have z := (List.getElem?_eq_some_iff.mp hi).1
      rw [List.length_append] at z
      have z' : i < rs.length + 1 := z
      omega
    rw [hl, List.getElem?_append_right (Nat.le_refl _), Nat.sub_self] at hi
    have e' : r = r' := Option.some.inj hi
    subst e'
    refine ⟨x, q, e, ?_, h1, h2⟩
    rw [hl, h.1, List.getElem?_append_right (Nat.le_refl _), Nat.sub_self]
    rfl
theorem dm_nil {z : Prop} {m : Nat} {H : Hp} {a : Addr} {f : Key → Int × Int} (h : H a = some (.dK [])) (hf : ∀ k, f k = (0, 1)) : DM z m H a [] f :=
  ⟨h, List.nodup_nil, Nat.zero_le _, fun _ hp => (List.not_mem_nil hp).elim, fun k _ => hf k⟩
theorem wdsP_len (x : Str) : (wdsP x).length ≤ (tl x).count 32 + 2 := by
  have z := congrArg List.length (wdsP_tl x)
  rw [List.length_map, List.length_cons, (join_spl _ (bare (tl x)) (Nat.le_refl _)).2.2] at z
  have b : (bare (tl x)).count 32 ≤ (tl x).count 32 := by
    unfold bare
    split
    · rw [← List.drop_one]
      exact (List.drop_sublist _ _).count_le _
    · exact Nat.le_refl _
  omega
theorem wdsP_each (x : Str) : ∀ z ∈ wdsP x, z.length ≤ x.length + 1 := fun z hz => by
  have m : tl z ∈ (wdsP x).map tl := List.mem_map.mpr ⟨z, hz, rfl⟩
  rw [wdsP_tl] at m
  rw [len_tl, len_tl]
  rcases List.mem_cons.mp m with e | e
  · rw [e]
    show 1 ≤ _
    omega
  · have k := ((join_spl _ (bare (tl x)) (Nat.le_refl _)).2.1 _ e).2
    have b : (bare (tl x)).length ≤ (tl x).length := by
      unfold bare
      split
      · rw [List.length_tail]
        omega
      · exact Nat.le_refl _
    omega
theorem walk_step {n : Nat} {pr : Option Str} {wd r : List Str} {p : Str × (Int × Int)} (h : rterm false wd = some (p, r)) (hn : wd.length ≤ n) : ∃ n', n = n' + 1 ∧ r.length ≤ n' ∧ walkT false n pr wd = (walkT false n' (some p.1) r).map (fun ps => p :: ps) := by
  have hl := rterm_len h
  cases wd with
  | nil => cases h
  | cons w ws =>
    obtain ⟨n', rfl⟩ : ∃ n', n = n' + 1 := ⟨n - 1, by rw [List.length_cons] at hn; omega⟩
    rw [List.length_cons] at hn hl
    refine ⟨n', rfl, by omega, ?_⟩
    generalize eo : walkT false n' (some p.1) r = o
    unfold walkT
    rw [h]
    simp only [Bool.false_eq_true, false_and, if_false]
    rw [eo]
    cases o <;> rfl
theorem walk_stop {n : Nat} {pr : Option Str} {wd : List Str} (hw : wd ≠ []) (h : rterm false wd = none) : walkT false n pr wd = none := by
  cases wd with
  | nil => exact absurd rfl hw
  | cons w ws =>
    cases n with
    | zero => rfl
    | succ n =>
      unfold walkT
      rw [h]
theorem outS_no {x : Str} (h0 : x ≠ "0") (h : walkT false (wdsP x).length none (wdsP x) = none) : outS x = none := by
  cases e : outS x with
  | none => rfl
  | some ps =>
    rcases (outS_some e).2.2.2.2 with z | z
    · exact absurd z h0
    · rw [z.2 none] at h
      cases h
theorem rterm_sub {all : Bool} {ws r : List Str} {p : Str × (Int × Int)} (h : rterm all ws = some (p, r)) : r.Sublist ws := by
  unfold rterm at h
  split at h
  · rename_i s a r0
    split at h
    · split at h
      · obtain ⟨_, e⟩ := Prod.mk.inj (Option.some.inj h)
        rw [← e]
        exact ((List.Sublist.refl _).cons _).cons _
      · split at h
        · rename_i b r'
          split at h
          · split at h
            · split at h
              · cases h
              · obtain ⟨_, e⟩ := Prod.mk.inj (Option.some.inj h)
                rw [← e]
                exact (((List.Sublist.refl _).cons _).cons _).cons _
            · cases h
          · cases h
        · cases h
    · cases h
  · cases h
section
variable {P : Program} {w : World} {K : PySem.W.Frag} {mg : Str → Option Value} {base : Heap}
def spRdSG (T : List Addr) (C : Addr) : Sp := fun vs H Q E => ∃ x : Str, vs = [.str x] ∧ x.length ≤ 950 ∧ (tl x).count 32 ≤ 35 ∧ Tabs T H ∧ (∀ ps, outS x = some ps → ∀ H' c ks, SameT T H H' → H c = none → DM True 18 H' c ks (fOf ps) → Q (.ref c) H') ∧ (outS x = none → ∀ H', SameT T H H' → E (.ref C) none H')
theorem scRdS : FnScope ["text", "signed", "words", "pairs", "pair", "told"] ["text"] (defScope sRdS) := ⟨rfl, rfl, rfl, by decide +kernel, rfl, by decide +kernel, by decide +kernel⟩
set_option maxHeartbeats 4000000 in
theorem ok_rdsg {f' C : Addr} {fd : FuncData} {T : List Addr} (F : Fun K "read_sum" "read_sum" sRdS f' fd) (X : ExT K mg "NoText" C) (rt : Cl P w K mg base (L2.CX P w) 5 "read_term" (spRdG K T C) []) (su : Cl P w K mg base CX0 4 "sum_of" (spSumOf K) []) (sx : Cl P w K mg base CX0 3 "sum_text" spSmx []) : FnOk P w K mg base (L2.CX P w) 6 f' fd ["text"] (spRdSG T C) := by
  refine F.okX scRdS (fun vs H Q E h => ?_) (fun cdv A outer s H vs Q E hr h => ?_)
  · obtain ⟨_, rfl, _⟩ := h
    rfl
  · obtain ⟨x, rfl, xl, xc, ht, q1, q0⟩ := h
    refine ⟨_, pss_cons (ps_if (pt_cmpR op_eq (pv 0) pe_str (nomark _)) (pss_one (ps_ret pe_dnewK)) pss_nil)
      (pss_cons (ps_set (i := 1) scRdS.nd rfl (.inl rfl) (pe_ifExp (pt_val (pe_m1 PySem.F.slot_str_startswith PySem.F.type_str_startswith mt_startswith (pv 0) pe_str)) (pe_op op_add_str pe_str (pe_slice sl_str (pv 0) (po_some pe_int) po_none)) (pe_op op_add_str pe_str (pv 0))))
      (pss_cons (ps_set (i := 2) scRdS.nd rfl (.inl rfl) (pe_split (pv 1) pe_str))
      (pss_cons (ps_set (i := 3) scRdS.nd rfl (.inl rfl) (pe_lst pa_nil))
      (pss_cons (ps_while (passes_of rfl) (pt_truth (pv 2) (by intro _; rfl))
        (pss_cons (ps_asg (pcS rt hr (by decide) (fun σ => passAt (takes_of rfl rfl rfl rfl) σ) (pa_cons (pv 2) pa_nil)) (pg_tup rfl (pgs_cons (pg_name (i := 4) scRdS.nd rfl (.inl rfl)) (pgs_cons (pg_name (i := 2) scRdS.nd rfl (.inl rfl)) pgs_nil))))
        (pss_one (ps_expr (pe_bm PySem.F.plainAttrs_list PySem.F.slot_list_append PySem.F.type_list_append mt_append (pv 3) (pa_cons (pv 4) pa_nil))))))
      (pss_cons (ps_set (i := 5) scRdS.nd rfl (.inl rfl) (pc0 su hr (by decide) (pa_cons (pv 3) pa_nil)))
      (pss_cons (ps_if (pt_cmpR op_ne (pc0 sx hr (by decide) (pa_cons (pv 5) pa_nil)) (pv 0) (nomark _)) (pss_one (ps_raise rfl (takes_of rfl rfl rfl rfl) (pmk_own PySem.F.excBase_ValueError X.xC X.gC X.kC (raises_own X.bC X.tC) (by exact rfl)))) pss_nil)
      (pss_one (ps_ret (pv 5))))))))), ?_⟩
    have xs : x.length ≤ sizeLine := sz5 (by omega)
    refine ⟨_, rfl, rfl, _, rfl, ite2 (fun z => ?_) (fun z => ?_)⟩
    · have e0 : x = "0" := V.str.inj (of_decide_eq_true z)
      intro D nD
      have eo : outS x = some [] := by
        unfold outS
        rw [if_pos e0]
      exact q1 _ eo _ D [] (SameT.of ht (same_new nD)) nD (dm_nil upd_same fun k => by cases k <;> rfl)
    have ne0 : x ≠ "0" := fun e => z (decide_eq_true (congrArg V.str e))
    have e2 : (("- " : Str)).length = 2 := by decide
    have e3 : (("+ " : Str)).length = 2 := by decide
    have sgl : (sgdS x).length ≤ 952 := by
      have z := congrArg List.length (sgd_tl x)
      rw [← len_tl, List.length_cons, List.length_cons] at z
      have b : (bare (tl x)).length ≤ (tl x).length := by
        unfold bare
        split
        · rw [List.length_tail]
          omega
        · exact Nat.le_refl _
      rw [← len_tl] at b
      omega
    refine' mid (C := _) (Inv := fun σ H' => H' = H ∧ σ = [some (.str x), some (.str (sgdS x)), none, none, none, none]) (fun key => ?main) ?cont
    case main =>
      refine ⟨_, rfl, ⟨_, rfl⟩, x, _, rfl, rfl, _, rfl, ?_⟩
      rw [startswith_tl]
      cases c : ngB (tl x) with
      | true =>
        have cl := cutS_length x (some 1) none
        refine iteT ⟨_, rfl, 1, rfl, x, rfl, xs, _, _, rfl, rfl, sz5 (by omega), ?_⟩
        dsimp only [gName]
        have es : sgdS x = "- " ++ cutS x (some 1) none := if_pos c
        exact key _ _ ⟨rfl, by rw [es]; try rfl⟩
      | false =>
        refine iteF ⟨_, rfl, _, x, rfl, rfl, sz5 (by omega), ?_⟩
        dsimp only [gName]
        have es : sgdS x = "+ " ++ x := if_neg (by rw [c]; decide)
        exact key _ _ ⟨rfl, by rw [es]; try rfl⟩
    case cont =>
      rintro σ H' ⟨rfl, rfl⟩
      have e1 : ((" " : Str)).length = 1 := by decide
      refine ⟨_, rfl, ⟨_, rfl⟩, sgdS x, " ", rfl, rfl, by decide, sz5 (by omega), fun l nl => ?_⟩
      have wl := wdsP_len x
      have we := wdsP_each x
      have ws0 : Txt.split (sgdS x) " " = wdsP x := rfl
      rw [ws0]
      have ono := fun h => outS_no (x := x) ne0 h
      have oso := fun ps (h : outS x = some ps) => outS_some h
      have onn := fun (h : outS x = none) => (outS_none h).2
      generalize wdsP x = ws at *
      have sl1 := same_new (o := .lst (ws.map V.str)) nl
      have hl := upd_same (H := H') (a := l) (o := .lst (ws.map V.str))
      refine ⟨by show 0 ≤ sizeLine; exact Nat.zero_le _, fun Pr nPr => ?_⟩
      have sl2 := same_new (o := .lst []) nPr
      have hPr := upd_same (H := upd H' l (.lst (ws.map V.str))) (a := Pr) (o := .lst [])
      have hl2 := sl2 _ _ hl
      have lP : l ≠ Pr := ne_of_none hl nPr
      have tS := SameT.of ht (sl1.trans sl2)
      have nP0 : H' Pr = none := sl1.free nPr
      generalize upd (upd H' l (.lst (ws.map V.str))) Pr (.lst []) = H1 at hPr hl2 tS ⊢
      refine ⟨fun m σ H2 => ∃ (l : Addr) (Wd : List Str) (rs : List Addr) (dn : List (Str × (Int × Int))) (n : Nat) (pr : Option Str) (y4 : Option V), σ = [some (.str x), some (.str (sgdS x)), some (.ref l), some (.ref Pr), y4, none] ∧ l ≠ Pr ∧ H2 l = some (.lst (Wd.map V.str)) ∧ (∀ z ∈ Wd, z.length ≤ 1000) ∧ H2 Pr = some (.lst (rs.map V.ref)) ∧ PL K H2 rs dn ∧ (∀ p ∈ dn, NmOk p.1 ∧ Okb 100 p.2) ∧ SameT T H' H2 ∧ m = Wd.length ∧ Wd.length ≤ n ∧ 2 * dn.length + Wd.length ≤ 37 ∧ walkT false ws.length none ws = (walkT false n pr Wd).map (fun ps => dn ++ ps),
        ⟨_, l, ws, [], [], ws.length, none, none, rfl, lP, hl2, fun z hz => (by have := we z hz; omega), hPr, ⟨rfl, fun i r e => by cases e⟩, fun p hp => (by cases hp), tS, rfl, Nat.le_refl _, (by rw [List.length_nil]; omega), (by cases walkT false ws.length none ws <;> rfl)⟩, ?_⟩
      rintro m σ H2 ⟨l2, Wd, rs, dn, n, pr, y4, rfl, lP2, hl3, wz, hP3, pl, dok, t3, rfl, wn, lim, ewk⟩
      refine ⟨_, rfl, _, .inl ⟨_, SqL.of hl3, rfl⟩, ?_⟩
      have hW : Wd = [] ∨ Wd ≠ [] := by
        cases Wd with
        | nil => exact .inl rfl
        | cons a b => exact .inr (fun z => by cases z)
      rcases hW with eW | neW
      · have wt : (!(Wd.map V.str).isEmpty) = false := by rw [eW]; rfl
        rw [wt]
        refine iteF ?_
        have ewk' : walkT false ws.length none ws = some dn := by
          rw [ewk, eW]
          have : walkT false n pr [] = some [] := by cases n <;> rfl
          rw [this]
          show some (dn ++ []) = some dn
          rw [List.append_nil]
        have dl : dn.length ≤ 18 := by omega
        have lim2 : (100 + 1) * dn.length + 1 ≤ 1900 := by omega
        refine ⟨_, rfl, Pr, rs, dn, 100, rfl, .inl (SqL.of hP3), pl, by omega, by omega, by decide, dok, fun H4 c ks s4 nc d4 => ?_⟩
        have tok : ∀ k, Okb 1900 (tot dn k) := fun k => (tot_ok (B := 100) (fun p hp => (dok p hp).2) k).mono lim2
        refine ⟨_, rfl, c, ks, tot dn, _, rfl, d4, by omega, tok, fun H5 ys' s' s5 sk' yl' et' => ⟨_, rfl, rfl, _, rfl, ite2 (fun z => ?_) (fun z => ?_)⟩⟩
        · have ns : s' ≠ x := fun e6 => by
            have z' : (!decide (V.str s' = V.str x)) = true := z
            rw [decide_eq_true (congrArg V.str e6)] at z'
            cases z'
          refine q0 ?_ _ ((t3.trans (SameT.of t3.tab s4)).trans (SameT.of (t3.tab.same s4) s5))
          cases eo : outS x with
          | none => rfl
          | some ps =>
            exfalso
            obtain ⟨k1, k2, k3, k4, k5⟩ := oso ps eo
            rcases k5 with k5 | k5
            · exact ne0 k5
            have ep : dn = ps := by
              have := k5.2 none
              rw [ewk'] at this
              exact Option.some.inj this
            have et : tot dn = fOf ps := by
              rw [ep]
              have z := tot_sk k1 (fOf_all (Pr := Okb 100) ⟨by decide, by decide, by decide, by decide⟩ (fun p hp => fg_okb (k3 p hp).2.1)) (fun i => rfl)
              rw [prs_fOf k2] at z
              exact z
            rw [et] at et' sk'
            exact ns (ext_tl (by rw [et', sk_uniq sk' k1, k4]))
        · have es : s' = x := Classical.byContradiction fun e6 => z (by
            show (!decide (V.str s' = V.str x)) = true
            rw [decide_eq_false fun y => e6 (V.str.inj y)]
            rfl)
          cases eo : outS x with
          | none =>
            exfalso
            exact onn eo none dn ewk' _ _ sk' (by rw [← et', es])
          | some ps =>
            obtain ⟨k1, k2, k3, k4, k5⟩ := oso ps eo
            have k5' : _ := k5.resolve_left ne0
            have ep : dn = ps := by
              have := k5'.2 none
              rw [ewk'] at this
              exact Option.some.inj this
            have et : tot dn = fOf ps := by
              rw [ep]
              have z := tot_sk k1 (fOf_all (Pr := Okb 100) ⟨by decide, by decide, by decide, by decide⟩ (fun p hp => fg_okb (k3 p hp).2.1)) (fun i => rfl)
              rw [prs_fOf k2] at z
              exact z
            rw [et] at d4
            exact ⟨_, rfl, q1 _ eo _ c ks ((t3.trans (SameT.of t3.tab s4)).trans (SameT.of (t3.tab.same s4) s5)) (t3.free nc) ((d4.mono (by omega)).same s5)⟩
      · have wt : (!(Wd.map V.str).isEmpty) = true := by
          cases Wd with
          | nil => exact absurd rfl neW
          | cons a b => rfl
        rw [wt]
        refine iteT ⟨fun σ' H4 => ∃ (l : Addr) (Wd' : List Str) (rs : List Addr) (dn : List (Str × (Int × Int))) (n : Nat) (pr : Option Str) (y4 : Option V), σ' = [some (.str x), some (.str (sgdS x)), some (.ref l), some (.ref Pr), y4, none] ∧ l ≠ Pr ∧ H4 l = some (.lst (Wd'.map V.str)) ∧ (∀ z ∈ Wd', z.length ≤ 1000) ∧ H4 Pr = some (.lst (rs.map V.ref)) ∧ PL K H4 rs dn ∧ (∀ p ∈ dn, NmOk p.1 ∧ Okb 100 p.2) ∧ SameT T H' H4 ∧ Wd'.length < Wd.length ∧ Wd'.length ≤ n ∧ 2 * dn.length + Wd'.length ≤ 37 ∧ walkT false ws.length none ws = (walkT false n pr Wd').map (fun ps => dn ++ ps), fun σ' H4 hN => ?_, ?_⟩
        · obtain ⟨a1, a2, a3, a4, a5, a6, a7, a8, a9, a10, a11, a12, a13, a14, a15, a16, a17, a18, a19⟩ := hN
          exact ⟨a2.length, a16, a1, a2, a3, a4, a5, a6, a7, a8, a9, a10, a11, a12, a13, a14, a15, rfl, a17, a18, a19⟩
        · refine ⟨_, rfl, l2, Wd, rfl, hl3, neW, by omega, wz, t3.tab, fun p r er H4 t pr' nm l4 s4 h4 hpr fnm np op hl4 nl4 => ?_, fun er H4 s4 => ?_⟩
          · have hP4 := s4.ext _ _ hP3 (fun ps z => by cases z)
            refine ⟨t, _, rfl, SqT.of h4, rfl, _, _, rfl, _, _, rfl, rfl, ?_⟩
            have l4P : l4 ≠ Pr := fun z => by
              rw [z, hP3] at nl4
              cases nl4
            obtain ⟨n', rfl, rn, est⟩ := walk_step (pr := pr) er wn
            have rlen := rterm_len er
            refine ⟨.ref Pr, rfl, .inl ⟨rfl, _, SqL.of hP4⟩, _, rfl, Pr, _, _, rfl, rfl, hP4, ?_, ?_⟩
            · rw [List.length_map, pl.1]
              exact small1000 (by omega)
            · refine ⟨l4, r, rs ++ [pr'], dn ++ [p], n', some p.1, _, rfl, l4P, ?_, fun z hz => ?_, ?_, ?_, fun p' hp' => ?_, (t3.trans s4).growX nP0 hP4 (fun ps z => by cases z), by omega, rn, ?_, ?_⟩
              · rw [upd_ne l4P]
                exact hl4
              · exact wz z ((rterm_sub er).subset hz)
              · rw [upd_same, List.map_append]
                rfl
              · exact ((pl.sameT s4).snocK hpr fnm).updL (o := .lst (rs.map V.ref ++ [.ref pr'])) hP4
              · rcases List.mem_append.mp hp' with z | z
                · exact dok p' z
                · rw [List.mem_singleton.mp z]
                  exact ⟨np, op⟩
              · rw [List.length_append, List.length_singleton]
                omega
              · rw [ewk, est]
                cases walkT false n' (some p.1) r with
                | none => rfl
                | some ps =>
                  show some (dn ++ (p :: ps)) = some ((dn ++ [p]) ++ ps)
                  rw [List.append_assoc]
                  rfl
          · refine q0 (ono ?_) _ (t3.trans s4)
            rw [ewk, walk_stop neW er]
            rfl
end
end SS
namespace SS
open PySem PySem.Spec PyProof.Rows L2 TL NumText
theorem cutR (u : List Nat) : 32 ∉ u ∨ ∃ a b, u = a ++ 32 :: b ∧ 32 ∉ b := by
  rcases cut32 u.reverse with h | ⟨a, b, e, h⟩
  · exact .inl fun z => h (List.mem_reverse.mpr z)
  · refine .inr ⟨b.reverse, a.reverse, ?_, fun z => h (List.mem_reverse.mp z)⟩
    have z := congrArg List.reverse e
    rw [List.reverse_reverse, List.reverse_append, List.reverse_cons, List.append_assoc] at z
    exact z
theorem cut2 (u : List Nat) : u.count 32 ≤ 1 ∨ ∃ a b c, u = a ++ 32 :: (b ++ 32 :: c) ∧ 32 ∉ b ∧ 32 ∉ c := by
  rcases cutR u with h | ⟨a, c, e, hc⟩
  · exact .inl (by rw [List.count_eq_zero.mpr h]; decide)
  · rcases cutR a with h | ⟨a', b, e', hb⟩
    · refine .inl ?_
      rw [e, List.count_append, List.count_cons_self, List.count_eq_zero.mpr h, List.count_eq_zero.mpr hc]
      decide
    · refine .inr ⟨a', b, c, ?_, hb, hc⟩
      rw [e, e', List.append_assoc]
      rfl
theorem sort_no32 {s : Str} (h : s ∈ sorts) : 32 ∉ tl s := by
  rcases sorts5 h with rfl | rfl | rfl | rfl | rfl <;> decide
theorem str_inV (s : Str) : ∀ l : List Str, inV (.str s) (l.map V.str) = decide (s ∈ l)
  | [] => by
    rw [decide_eq_false List.not_mem_nil]
    rfl
  | t :: l => by
    have i := str_inV s l
    show (eqV (.str t) (.str s) || inV (.str s) (l.map V.str)) = _
    rw [i]
    have e : eqV (.str t) (.str s) = decide (t = s) := rfl
    rw [e]
    by_cases c : t = s
    · rw [decide_eq_true c, decide_eq_true (show s ∈ t :: l by rw [c]; exact List.mem_cons_self), Bool.true_or]
    · rw [decide_eq_false c, Bool.false_or]
      by_cases d : s ∈ l
      · rw [decide_eq_true d, decide_eq_true (List.mem_cons_of_mem _ d)]
      · rw [decide_eq_false d, decide_eq_false fun z => by
          rcases List.mem_cons.mp z with z | z
          · exact c z.symm
          · exact d z]
theorem three_of {ws : List Str} {a b c : List Nat} (h : ws.map tl = [a, b, c]) : ∃ x y z, ws = [x, y, z] ∧ tl x = a ∧ tl y = b ∧ tl z = c := by
  match ws, h with
  | [x, y, z], h =>
    have h1 := List.cons.inj h
    have h2 := List.cons.inj h1.2
    have h3 := List.cons.inj h2.2
    exact ⟨x, y, z, rfl, h1.1, h2.1, h3.1⟩
/-- what a text reads as, if as a row -/
noncomputable def outR3 (w0 w1 w2 : Str) : Option (List (Str × (Int × Int)) × Str × (Int × Int)) := if w1 ∈ sorts then (match outS w0, rd (tl w2) with | some ps, some N => some (ps, w1, N) | _, _ => none) else none
noncomputable def outR (x : Str) : Option (List (Str × (Int × Int)) × Str × (Int × Int)) := match Txt.rsplitMax x " " 2 with
  | [w0, w1, w2] => outR3 w0 w1 w2
  | _ => none
theorem outR_few {x : Str} (h : (tl x).count 32 ≤ 1) : outR x = none ∧ (Txt.rsplitMax x " " 2).length ≠ 3 := by
  have z := rsplit_few h
  unfold outR
  generalize Txt.rsplitMax x " " 2 = ws at z
  match ws, z with
  | [], _ => exact ⟨rfl, by decide⟩
  | [_], _ => exact ⟨rfl, by show 1 ≠ 3; decide⟩
  | [_, _], _ => exact ⟨rfl, by show 2 ≠ 3; decide⟩
  | _ :: _ :: _ :: _, z => simp at z
theorem outR_cut {x : Str} {a b c : List Nat} (e : tl x = a ++ 32 :: (b ++ 32 :: c)) (hb : 32 ∉ b) (hc : 32 ∉ c) : ∃ w0 w1 w2, Txt.rsplitMax x " " 2 = [w0, w1, w2] ∧ tl w0 = a ∧ tl w1 = b ∧ tl w2 = c ∧ outR x = outR3 w0 w1 w2 := by
  obtain ⟨w0, w1, w2, ew, e0, e1, e2⟩ := three_of (rsplit_three e hb hc)
  refine ⟨w0, w1, w2, ew, e0, e1, e2, ?_⟩
  unfold outR
  rw [ew]
section
variable {P : Program} {w : World} {K : PySem.W.Frag} {mg : Str → Option Value} {base : Heap}
def spRdRG (K : PySem.W.Frag) (T : List Addr) (C : Addr) : Sp := fun vs H Q E => ∃ x : Str, vs = [.str x] ∧ x.length ≤ 950 ∧ (tl x).count 32 ≤ 35 ∧ Tabs T H ∧
  (∀ ps srt num, outR x = some (ps, srt, num) → ∀ H' r a ks, SameT T H H' → H r = none → RowT K 18 H' r a ks (fOf ps) srt num → Q (.ref r) H') ∧ (outR x = none → ∀ H', SameT T H H' → E (.ref C) none H')
theorem scRdR : FnScope ["text", "words"] ["text"] (defScope sRdR) := ⟨rfl, rfl, rfl, by decide +kernel, rfl, by decide +kernel, by decide +kernel⟩
set_option maxHeartbeats 2000000 in
theorem ok_rdrg {f' C aS : Addr} {fd : FuncData} {T : List Addr} (F : Fun K "read_row" "read_row" sRdR f' fd) (X : ExT K mg "NoText" C) (ml : mg "len" = none) (gS : mg "SORTS" = some (.ref aS)) (hS : ∀ H, SqT K H aS (sorts.map V.str)) (rs : Cl P w K mg base (L2.CX P w) 6 "read_sum" (spRdSG T C) []) (rf : Cl P w K mg base (L2.CX P w) 4 "read_fraction" (spRdF T C) []) : FnOk P w K mg base (L2.CX P w) 7 f' fd ["text"] (spRdRG K T C) := by
  refine F.okX scRdR (fun vs H Q E h => ?_) (fun cdv A outer s H vs Q E hr h => ?_)
  · obtain ⟨_, rfl, _⟩ := h
    rfl
  · obtain ⟨x, rfl, xl, xc, ht, q1, q0⟩ := h
    refine ⟨_, pss_cons (ps_set (i := 1) scRdR.nd rfl (.inl rfl) (pe_bm PySem.F.plainAttrs_str PySem.F.slot_str_rsplit PySem.F.type_str_rsplit mt_rsplitMax (pv 0) (pa_cons pe_str (pa_cons pe_int pa_nil))))
      (pss_cons (ps_if (PW.pt (pw_or (pt_cmpR op_ne (pe_callB call_len_seq (by rfl) ml PySem.boot_len (pa_cons (pv 1) pa_nil)) pe_int (nomark _)) (pw_or1 (pt_cmpR op_notIn_seq (pe_ix ix_list (pv 1) pe_int (fun _ _ => rfl)) (pe_glob (v := .ref aS) (by rfl) gS rfl) rfl))))
        (pss_one (ps_raise rfl (takes_of rfl rfl rfl rfl) (pmk_own PySem.F.excBase_ValueError X.xC X.gC X.kC (raises_own X.bC X.tC) (by exact rfl)))) pss_nil)
      (pss_one (ps_ret (pe_tup (pa_cons (pcS rs hr (by decide) (fun σ => passAt (takes_of rfl rfl rfl rfl) σ) (pa_cons (pe_ix ix_list (pv 1) pe_int (fun _ _ => rfl)) pa_nil)) (pa_cons (pe_ix ix_list (pv 1) pe_int (fun _ _ => rfl)) (pa_cons (pcS rf hr (by decide) (fun σ => passAt (takes_of rfl rfl rfl rfl) σ) (pa_cons (pe_ix ix_list (pv 1) pe_int (fun _ _ => rfl)) pa_nil)) pa_nil))))))), ?_⟩
    refine ⟨_, rfl, rfl, x, " ", 2, rfl, rfl, by decide, by decide, by decide, sz5 (by omega), fun l nl => ?_⟩
    rcases cut2 (tl x) with few | ⟨a, b, c, ex, hb, hc⟩
    · obtain ⟨o, n3⟩ := outR_few few
      generalize Txt.rsplitMax x " " 2 = ws at n3 ⊢
      have sl := same_new (o := .lst (ws.map V.str)) nl
      have hl := upd_same (H := H) (a := l) (o := .lst (ws.map V.str))
      have t1 := SameT.of ht sl
      generalize upd H l (.lst (ws.map V.str)) = H1 at hl t1 ⊢
      refine ⟨_, rfl, l, _, rfl, .inl (SqL.of hl), rfl, _, rfl, ite2 (fun z => q0 o _ t1) (fun z => absurd ?_ z)⟩
      have nn : ¬ (V.int ((ws.map V.str).length : Int) = V.int 3) := fun z => by
        have z' := V.int.inj z
        rw [List.length_map] at z'
        omega
      show (!decide (V.int ((ws.map V.str).length : Int) = V.int 3)) = true
      rw [decide_eq_false nn]
      rfl
    · obtain ⟨w0, w1, w2, ew, e0, e1, e2, eo⟩ := outR_cut ex hb hc
      have lens : w0.length ≤ 950 ∧ w2.length ≤ 950 ∧ (tl w0).count 32 ≤ 35 := by
        have z := congrArg List.length ex
        rw [← len_tl, List.length_append, List.length_cons, List.length_append, List.length_cons] at z
        have z2 : (tl w0).count 32 ≤ (tl x).count 32 := by
          rw [e0, ex, List.count_append]
          omega
        rw [len_tl, len_tl, e0, e2]
        rw [e0] at z2
        exact ⟨by omega, by omega, by omega⟩
      rw [ew]
      have sl := same_new (o := .lst ([w0, w1, w2].map V.str)) nl
      have hl := upd_same (H := H) (a := l) (o := .lst ([w0, w1, w2].map V.str))
      have t1 := SameT.of ht sl
      generalize upd H l (.lst ([w0, w1, w2].map V.str)) = H1 at hl t1 ⊢
      refine ⟨_, rfl, l, _, rfl, .inl (SqL.of hl), rfl, _, rfl, ite2 (fun z => ?_) (fun _ => ?_)⟩
      · exfalso
        have z' : (!decide (V.int 3 = V.int 3)) = true := z
        rw [decide_eq_true rfl] at z'
        cases z'
      refine ⟨_, rfl, l, _, 1, _, rfl, rfl, SqL.of hl, atI_nat (j := 1) rfl, aS, _, rfl, .inr (hS _), rfl, rfl, ?_⟩
      rw [str_inV]
      by_cases hs : w1 ∈ sorts
      · rw [decide_eq_true hs]
        refine ⟨_, rfl, iteF ?_⟩
        have eo' : outR x = match outS w0, rd (tl w2) with | some ps, some N => some (ps, w1, N) | _, _ => none := by
          rw [eo]
          exact if_pos hs
        refine ⟨_, rfl, l, _, 0, _, rfl, rfl, SqL.of hl, atI_nat (j := 0) rfl, w0, rfl, lens.1, lens.2.2, t1.tab, fun ps eps H2 c' ks s2 nc d2 => ?_, fun en H2 s2 => q0 (by rw [eo', en]) _ (t1.trans s2)⟩
        have hl2 := s2.ext _ _ hl (fun ps z => by cases z)
        have t2 := t1.trans s2
        refine ⟨_, rfl, l, _, 1, _, rfl, rfl, SqL.of hl2, atI_nat (j := 1) rfl, _, rfl, l, _, 2, _, rfl, rfl, SqL.of hl2, atI_nat (j := 2) rfl, w2, rfl, by omega, t2.tab, fun M hM H3 p3 s3 np3 hp3 ok3 => ?_, fun z H3 s3 => q0 (by rw [eo', eps, z]) _ (t2.trans s3)⟩
        refine ⟨by show 3 ≤ sizeLine; decide, fun R nR => ?_⟩
        have sR := same_new (o := .tup [.ref c', .str w1, .ref p3]) nR
        have t3 := t2.trans s3
        exact q1 _ _ _ (by rw [eo', eps, hM]) _ R c' ks (t3.trans (SameT.of t3.tab sR)) (t3.free nR) ⟨p3, upd_same, (d2.sameT s3).same sR, FrT.of (sR _ _ hp3), hs⟩
      · rw [decide_eq_false hs]
        exact ⟨_, rfl, iteT (q0 (by rw [eo]; exact if_neg hs) _ t1)⟩
end
end SS
namespace SS
open PySem PySem.Spec PyProof.Rows L2
/-! ### the greatest of texts -/
theorem best_txtG (t : Nat → Str) : ∀ k, argBest (fun i j => ltCps (t j).cps.toList (t i).cps.toList) k ≤ k ∧ ∀ j, j ≤ k → leS (t j) (t (argBest (fun i j => ltCps (t j).cps.toList (t i).cps.toList) k))
  | 0 => ⟨Nat.le_refl _, fun j hj => by
      rw [show j = 0 by omega]
      exact ltIrr _⟩
  | k + 1 => by
    obtain ⟨a, b⟩ := best_txtG t k
    simp only [argBest]
    split
    · rename_i c
      refine ⟨Nat.le_refl _, fun j hj => ?_⟩
      rcases Nat.lt_or_ge j (k + 1) with z | z
      · exact nltT _ _ _ (b j (by omega)) (ltNot _ _ c)
      · rw [show j = k + 1 by omega]
        exact ltIrr _
    · rename_i c
      refine ⟨by omega, fun j hj => ?_⟩
      rcases Nat.lt_or_ge j (k + 1) with z | z
      · exact b j (by omega)
      · rw [show j = k + 1 by omega]
        exact Bool.eq_false_iff.mpr c
section
variable {X : Cx}
/-- max(d), d a dict whose keys are texts -/
def rMaxT : List V → Hp → VK → Prop := fun vs H Q => ∃ (a : Addr) (kvs : List (Key × V)) (ts : List Str), vs = [V.ref a] ∧ H a = some (.dK kvs) ∧ kvs.map (·.1) = ts.map Sum.inr ∧ ts ≠ [] ∧ ∀ m ∈ ts, (∀ j ∈ ts, leS j m) → Q (.str m) H
theorem cr_maxT (hc : X.calm = true) : CallR X (.builtin "max") rMaxT := by
  rintro pins s σ H _ us Q I r ⟨a, kvs, ts, rfl, ha, hk, ne, q⟩
  obtain ⟨_, sysOk, es, rel, dof⟩ := dk_of I.hok ha
  obtain ⟨ep, at'⟩ := dof.dictAt
  have isz : a < s.heap.objs.size := by
    obtain ⟨_, _, z, _⟩ := id at'
    exact Heap.lt_size z
  have ks : es.map (·.1) = ts.map Sum.inr := by rw [← KV.keys rel, hk]
  have ln : es.length = ts.length := by simpa using congrArg List.length ks
  have shape : ∀ (i : Nat) (v : Value), (∃ k x, es[i]? = some (k, x) ∧ (mixKind X.prog X.w).is k v = true) → ∃ u, v = Value.str (ts.getD i "") u := by
    rintro i v ⟨k, x, e1, e2⟩
    have e3 : (ts.map Sum.inr)[i]? = some k := by
      rw [← ks, List.getElem?_map, e1]
      rfl
    rw [List.getElem?_map] at e3
    cases e4 : ts[i]? with
    | none =>
      rw [e4] at e3
      cases e3
    | some t =>
      rw [e4] at e3
      cases e3
      have e2 : keyIs (.inr t) v = true := e2
      rcases keyIs_shape e2 with ⟨_, _, z, _⟩ | ⟨y, u, z, e5⟩
      · cases z
      · cases z
        refine ⟨u, ?_⟩
        rw [e5, List.getD_eq_getElem?_getD, e4]
        rfl
  have cmp : CmpOf X.prog X.w X.A.in1 .Gt (fun i v => ∃ k x, es[i]? = some (k, x) ∧ (mixKind X.prog X.w).is k v = true) (fun i j => ltCps (ts.getD j "").cps.toList (ts.getD i "").cps.toList) := by
    intro i j vi vj s' Q' E' hi hj hQ
    obtain ⟨u, rfl⟩ := shape i vi hi
    obtain ⟨u', rfl⟩ := shape j vj hj
    refine PySem.P.gt_str ?_
    rw [show (decide ((ts.getD j "").cps.toList < (ts.getD i "").cps.toList)) = ltCps (ts.getD j "").cps.toList (ts.getD i "").cps.toList from (ltCps_eq _ _).symm]
    exact hQ
  obtain ⟨b1, b2⟩ := best_txtG (fun i => ts.getD i "") (es.length - 1)
  have pos : 0 < ts.length := List.length_pos_iff.mpr ne
  rw [Vals.ref1 r]
  refine call_max_walk (wpAny_pyIter_dict (knd := mixKind X.prog X.w) sysOk at' ⟨_, _, _, _, _, _, _, rfl, Walks.dictKeys (knd := mixKind X.prog X.w) (A := X.A.in1) (I.ok.hd hc) s.heap.objs.size a (Nat.ne_of_lt isz) es ep,
    ⟨⟨_, Heap.get?_push_size _ rfl, rfl, rfl⟩, at'.keep fun b u e => Heap.get?_push_of_some _ e⟩, fun b hb => ?_, by omega, cmp, fun v h' tk hP keep => ?_⟩)
  · show b < (s.heap.push _).objs.size
    rw [Heap.size_push]
    rcases List.mem_cons.mp hb with z | z
    · rw [z]
      exact Nat.lt_succ_self _
    · rw [List.mem_singleton.mp z]
      exact Nat.lt_succ_of_lt isz
  · obtain ⟨u, rfl⟩ := shape _ v hP
    refine ⟨.str _, H, I.kept (t' := tk) fun b o e => keep b o (fun z => ?_) (Heap.get?_push_of_some _ e), ⟨u, rfl⟩, q _ ?_ fun t ht => ?_⟩
    · rw [List.mem_singleton.mp z] at e
      exact absurd (Heap.lt_size e) (Nat.lt_irrefl _)
    · have lt : argBest (fun i j => ltCps (ts.getD j "").cps.toList (ts.getD i "").cps.toList) (es.length - 1) < ts.length := by omega
      rw [List.getD_eq_getElem?_getD, List.getElem?_eq_getElem lt]
      exact List.getElem_mem lt
    · obtain ⟨i, il, e⟩ := List.mem_iff_getElem.mp ht
      have e2 : ts.getD i "" = t := by
        rw [List.getD_eq_getElem?_getD, List.getElem?_eq_getElem il, ← e]
        rfl
      rw [← e2]
      exact b2 i (by omega)
end
end SS
namespace SS
open PySem PySem.Spec PyProof.Rows L2 TL NumText
section
variable {X : Cx}
/-- d != {} -/
def rNe0 : R2 := fun x y H Q => ∃ (a b : Addr) (ks : List (Key × V)), x = .ref a ∧ y = .ref b ∧ H a = some (.dK ks) ∧ H b = some (.dK []) ∧ Q (.bl (!(ks.length == 0))) H
theorem op_ne0 (hu : X.A.units + 64 < cLine) : OpR X (compareOp .NotEq) rNe0 := by
  intro pins s σ H x y v u Q I rx ry h
  obtain ⟨a, b, ks, rfl, rfl, h1, h2, q⟩ := h
  obtain rfl : v = Value.ref a := rx
  obtain rfl : u = Value.ref b := ry
  obtain ⟨_, ya, va, ra, da⟩ := (show ObjOk X.prog X.w H s.heap a (.dK ks) from I.hok a _ h1)
  obtain ⟨_, yb, vb, rb, db⟩ := (show ObjOk X.prog X.w H s.heap b (.dK []) from I.hok b _ h2)
  have e1 : va.length = ks.length := ra.length.symm
  have e2 : vb.length = 0 := rb.length.symm
  refine PySem.W.keq_ne (knd := mixKind X.prog X.w) (r := true) ya yb da db (by omega) (fun z => ?_) ?_
  · rw [e2] at z
    have ez : va = [] := List.eq_nil_of_length_eq_zero z
    rw [ez]
    exact .nil
  · exact ⟨.bl (!(ks.length == 0)), H, I, (by rw [e1, e2, Bool.and_true]; rfl), q⟩
end
open Classical in
/-- a term without its sign, as the law reads it, and how many words it has -/
noncomputable def lt0 : List Str → Option ((Str × (Int × Int)) × Nat)
  | [] => none
  | a :: r => if NmOk a then some ((a, (1, 1)), 1) else match r with
    | [] => none
    | b :: _ => if NmOk b then (match rd (tl a) with | none => none | some M => if M.1 < 1 ∨ M = (1, 1) then none else some ((b, M), 2)) else none
theorem lt0_nm {a : Str} {r : List Str} (na : NmOk a) : lt0 (a :: r) = some ((a, (1, 1)), 1) := by
  simp [lt0, na]
theorem lt0_one {a : Str} (na : ¬ NmOk a) : lt0 [a] = none := by
  simp [lt0, na]
theorem lt0_no {a b : Str} {r : List Str} (na : ¬ NmOk a) (nb : ¬ NmOk b) : lt0 (a :: b :: r) = none := by
  simp [lt0, na, nb]
theorem lt0_non {a b : Str} {r : List Str} (na : ¬ NmOk a) (e : rd (tl a) = none) : lt0 (a :: b :: r) = none := by
  simp [lt0, na, e]
theorem lt0_bad {a b : Str} {r : List Str} {M : Int × Int} (na : ¬ NmOk a) (e : rd (tl a) = some M) (h : M.1 < 1 ∨ M = (1, 1)) : lt0 (a :: b :: r) = none := by
  simp [lt0, na, e, h]
theorem lt0_rd {a b : Str} {r : List Str} {M : Int × Int} (na : ¬ NmOk a) (nb : NmOk b) (e : rd (tl a) = some M) (h : ¬ (M.1 < 1 ∨ M = (1, 1))) : lt0 (a :: b :: r) = some ((b, M), 2) := by
  simp [lt0, na, nb, e, h]
theorem rterm_lt0 {s : Str} (zs : List Str) (h : isSgB s = true) : rterm true (s :: zs) = (lt0 zs).map (fun p => ((p.1.1, sgnd s p.1.2), zs.drop p.2)) := by
  cases zs with
  | nil => rfl
  | cons a r =>
    by_cases na : NmOk a
    · rw [rt_nm h na, lt0_nm na]
      rfl
    · cases r with
      | nil =>
        rw [rt_one na, lt0_one na]
        rfl
      | cons b r =>
        by_cases nb : NmOk b
        · rw [rt_rdL h na nb]
          cases e : rd (tl a) with
          | none =>
            rw [lt0_non na e]
            rfl
          | some M =>
            by_cases c : M.1 < 1 ∨ M = (1, 1)
            · rw [lt0_bad na e c]
              exact if_pos c
            · rw [lt0_rd na nb e c]
              exact if_neg c
        · rw [rt_no na nb, lt0_no na nb]
          rfl
section
variable {P : Program} {w : World} {K : PySem.W.Frag} {mg : Str → Option Value} {base : Heap}
def spIsNameB (K : PySem.W.Frag) : Sp := fun vs H Q _ => ∃ v b, vs = [v] ∧ NmB K H v b ∧ ∀ H', Same H H' → Q (.bl b) H'
theorem ok_isnameB {f : Addr} {fd : FuncData} {k : Nat} (F : Fun K "_law_is_name" "_law_is_name" sIsName f fd) (mi : mg "isinstance" = none) (ms : mg "str" = none) (ml : mg "len" = none) (ma : mg "all" = none) : FnOk P w K mg base CX0 (k + 1) f fd ["_law_thing"] (spIsNameB K) := by
  refine F.ok scIsName (fun vs H Q E h => ?_) (fun cdv A outer s H vs Q E hr h => ?_)
  · obtain ⟨_, _, rfl, _⟩ := h
    rfl
  · obtain ⟨v, b, rfl, hv, q⟩ := h
    refine ⟨_, pss_cons (ps_if (PW.pt (pw_or (pt_not (pt_val (pe_callB call_isi (by rfl) mi boot_isinstance (pa_cons (pv 0) (pa_cons (pe_bltn (v := .ty "str") (u := .type "str") (by rfl) ms (by decide +kernel) rfl) pa_nil)))))
        (pw_or1 (pt_not (pt_chain op_lt op_lt pe_int (pe_callB call_len (by rfl) ml PySem.boot_len (pa_cons (pv 0) pa_nil)) pe_int))))) (pss_one (ps_ret pe_bl)) pss_nil)
      (pss_one (ps_ret (pe_callB (cr_all rfl) (by rfl) ma boot_all (pa_cons
        (pe_lc (own := [("_law_sign_here", 1)]) (g := gName 1) (tt := tYes) rfl scIsName.nd (pi_str (pv 0)) (blkOk_by (by rfl)) (fun _ _ _ _ _ => pg_name (i := 1) scIsName.nd rfl (Or.inl rfl)) (fun _ _ _ _ _ => pts_nil)
          (fun _ _ _ _ _ => pe_cmpR op_in_sign (pv 1) pe_str rfl)) pa_nil)))), ?_⟩
    rcases hv with ⟨x, rfl, hx, rfl⟩ | ⟨hv, rfl⟩
    · have el : x.length = x.cps.toList.length := by
        rw [Array.length_toList]
        rfl
      have xs : x.length ≤ sizeLine := Nat.le_of_lt (small1000 hx)
      refine ⟨_, rfl, .str x, .ty "str", .type "str", .type "str", true, rfl, .ty _, .base (.str x), kit_ty (by decide +kernel), _, rfl, iteF ?_⟩
      have bad : ¬ NmOk x → Q (.bl false) H := fun c => by
        have z := q H (Same.refl _)
        rw [decide_eq_false c] at z
        exact z
      refine ⟨_, rfl, _, x.length, rfl, ⟨xs, rfl⟩, 0, (x.length : Int), rfl, rfl, _, rfl, ite2 (fun e1 => ?_) (fun e1 => ?_)⟩
      · have c1 : (0 : Int) < (x.length : Int) := of_decide_eq_true e1
        refine ⟨(x.length : Int), 7, rfl, rfl, _, rfl, ?_⟩
        by_cases c2 : (x.length : Int) < 7
        · rw [decide_eq_true c2]
          refine iteF ?_
          refine ⟨_, rfl, x, rfl, fun D nD => lc_it walk_str (fun i H' => H' D = some (.lst (((x.cps.toList.take i).map fun ch => decide (ch ∈ abc.cps.toList)).map V.bl)) ∧ ∀ b o, b ≠ D → H b = some o → H' b = some o)
            ⟨upd_same, fun b o nb e => by rw [upd_ne nb]; exact e⟩ (fun _ _ _ _ => trivial) ?_ ?_⟩
          · rintro i y H2 H' hi ⟨w1, w2⟩ ⟨rfl, ch, hc, rfl⟩
            have hc' : x.cps.toList[i]? = some ch := by
              rw [Array.getElem?_toList]
              exact hc
            refine ⟨rfl, _, rfl, ch, abc, rfl, rfl, _, w1, ?_, ?_, ?_⟩
            · rw [List.length_map, List.length_map]
              have l2 := List.length_take_le' i x.cps.toList
              exact small1000 (by omega)
            · rw [upd_same, List.take_add_one, hc', List.map_append, List.map_append]
              rfl
            · intro b o nb e
              rw [upd_ne nb]
              exact w2 b o nb e
          · rintro H' ⟨w1, w2⟩
            have et : x.cps.toList.take x.cps.size = x.cps.toList := by
              rw [← Array.length_toList]
              exact List.take_length
            rw [et] at w1
            refine ⟨D, _, rfl, SqL.of w1, ?_⟩
            have eb : ((x.cps.toList.map fun ch => decide (ch ∈ abc.cps.toList)).all id) = decide (NmOk x) := by
              by_cases c : NmOk x
              · rw [decide_eq_true c]
                refine List.all_eq_true.mpr fun b hb => ?_
                obtain ⟨ch, hm, rfl⟩ := List.mem_map.mp hb
                have hr' := c.2.2 ch hm
                have z2 := abc_mem (ch - 97) (by omega)
                rw [show 97 + (ch - 97) = ch by omega] at z2
                exact decide_eq_true z2
              · rw [decide_eq_false c]
                cases e : ((x.cps.toList.map fun ch => decide (ch ∈ abc.cps.toList)).all id) with
                | false => rfl
                | true =>
                  refine absurd ⟨by omega, by omega, fun ch hm => ?_⟩ c
                  exact abc_in _ (of_decide_eq_true (List.all_eq_true.mp e _ (List.mem_map.mpr ⟨ch, hm, rfl⟩)))
            rw [eb]
            exact q _ fun b o e => w2 b o (ne_of_none e nD) e
        · rw [decide_eq_false c2]
          exact iteT (bad fun ok => c2 (by have := ok.2.1; omega))
      · exact ⟨false, rfl, iteT (bad fun ok => e1 (decide_eq_true (by have := ok.1; omega)))⟩
    · have hk : ∃ t, TyX K H v (.type t) ∧ PySem.W.kitOne K (.type t) (.type "str") = some false := by
        rcases hv with ⟨i, rfl⟩ | rfl | ⟨p, xs, rfl, e⟩
        · exact ⟨_, .base (.int i), kit_ty (by decide +kernel)⟩
        · exact ⟨_, .base .non, kit_ty (by decide +kernel)⟩
        · exact ⟨_, SqT.ty e, kit_ty (by decide +kernel)⟩
      obtain ⟨t, h1, h2⟩ := hk
      exact ⟨_, rfl, v, .ty "str", .type t, .type "str", false, rfl, .ty _, h1, h2, _, rfl, iteT (q H (Same.refl _))⟩

/-! ### _law_term -/
def spLTm (K : PySem.W.Frag) : Sp := fun vs H Q _ => ∃ (l : Addr) (ws : List Str) (k : Nat), vs = [.ref l, .int (k : Int)] ∧ H l = some (.lst (ws.map V.str)) ∧ (∀ z ∈ ws, z.length ≤ 900) ∧ (lt0 (ws.drop k) = none → ∀ H', Same H H' → Q .non H') ∧
  (∀ x M n, lt0 (ws.drop k) = some ((x, M), n) → ∀ H' t p, Same H H' → H t = none → H' t = some (.tup [.ref p, .str x, .int ((k + n : Nat) : Int)]) → H' p = some (.tup [.int M.1, .int M.2]) → NmOk x → Q (.ref t) H')
theorem scLTerm : FnScope ["_law_words", "_law_at", "_law_number_here"] ["_law_words", "_law_at"] (defScope sLTerm) := ⟨rfl, rfl, rfl, by decide +kernel, rfl, by decide +kernel, by decide +kernel⟩
set_option maxHeartbeats 4000000 in
theorem ok_lterm {f : Addr} {fd : FuncData} (F : Fun K "_law_term" "_law_term" sLTerm f fd) (ml : mg "len" = none) (nm : Cl P w K mg base CX0 1 "_law_is_name" (spIsNameB K) []) (rn : Cl P w K mg base CX0 2 "_law_read_number" spRdN []) : FnOk P w K mg base CX0 3 f fd ["_law_words", "_law_at"] (spLTm K) := by
  refine F.ok scLTerm (fun vs H Q E h => ?_) (fun cdv A outer s H vs Q E hr h => ?_)
  · obtain ⟨_, _, _, rfl, _⟩ := h
    rfl
  · obtain ⟨l, ws, k, rfl, hl, hz, q0, q1⟩ := h
    refine ⟨_, pss_cons (ps_if (PW.pt (pw_and (pt_cmpR op_lt (pv 1) (pe_callB call_len_seq (by rfl) ml PySem.boot_len (pa_cons (pv 0) pa_nil)) (nomark _)) (pw_and1 (pt_val (pc0 nm hr (by decide) (pa_cons (pe_ix ix_list (pv 0) (pv 1) (fun _ _ => rfl)) pa_nil))))))
        (pss_one (ps_ret (pe_tup (pa_cons (pe_tup (pa_cons pe_int (pa_cons pe_int pa_nil))) (pa_cons (pe_ix ix_list (pv 0) (pv 1) (fun _ _ => rfl)) (pa_cons (pe_op op_add (pv 1) pe_int) pa_nil)))))) pss_nil)
      (pss_cons (ps_if (PW.pt (pw_or (pt_cmpR op_ge (pe_op op_add (pv 1) pe_int) (pe_callB call_len_seq (by rfl) ml PySem.boot_len (pa_cons (pv 0) pa_nil)) (nomark _)) (pw_or1 (pt_not (pt_val (pc0 nm hr (by decide) (pa_cons (pe_ix ix_list (pv 0) (pe_op op_add (pv 1) pe_int) (fun _ _ => rfl)) pa_nil)))))))
        (pss_one (ps_ret pe_non)) pss_nil)
      (pss_cons (ps_set (i := 2) scLTerm.nd rfl (.inl rfl) (pc0 rn hr (by decide) (pa_cons (pe_ix ix_list (pv 0) (pv 1) (fun _ _ => rfl)) pa_nil)))
      (pss_cons (ps_if (PW.pt (pw_or (pt_cmpR op_isN (pv 2) pe_non (nomark _)) (pw_or (pt_cmpR op_lt (pe_ix ix_tup (pv 2) pe_int (fun _ _ => rfl)) pe_int (nomark _)) (pw_or1 (pt_cmpR (op_eqD hr.units) (pv 2) (pe_tup (pa_cons pe_int (pa_cons pe_int pa_nil))) (nomark _))))))
        (pss_one (ps_ret pe_non)) pss_nil)
      (pss_one (ps_ret (pe_tup (pa_cons (pv 2) (pa_cons (pe_ix ix_list (pv 0) (pe_op op_add (pv 1) pe_int) (fun _ _ => rfl)) (pa_cons (pe_op op_add (pv 1) pe_int) pa_nil))))))))), ?_⟩
    have nmb : ∀ (H' : Hp) (z : Str) (b : Bool), z ∈ ws → (b = true ↔ NmOk z) → NmB K H' (.str z) b := fun H' z b hz' hb => .inl ⟨z, rfl, by have := hz z hz'; omega, by
      cases b with
      | true => exact (decide_eq_true (hb.mp rfl)).symm
      | false => exact (decide_eq_false fun h => by cases hb.mpr h).symm⟩
    have el : ((ws.map V.str).length : Int) = (ws.length : Int) := by rw [List.length_map]
    have at1 : ∀ (j : Nat) (z : Str), ws[j]? = some z → atI (ws.map V.str) (j : Int) = some (.str z) := fun j z e => atI_nat (by rw [List.getElem?_map, e]; rfl)
    have e1 : ((k : Int) + 1) = ((k + 1 : Nat) : Int) := rfl
    have e2 : ((k : Int) + 2) = ((k + 2 : Nat) : Int) := rfl
    refine' mid (C := _) (Inv := fun σ H' => σ = [some (.ref l), some (.int (k : Int)), none] ∧ Same H H' ∧ (ws.length ≤ k ∨ ∃ a, ws[k]? = some a ∧ ¬ NmOk a)) (fun key => ?main) ?cont
    case main =>
      refine ⟨_, rfl, _, rfl, l, _, rfl, .inl (SqL.of hl), (k : Int), (ws.length : Int), rfl, congrArg V.int el, _, rfl, ite2 (fun z => ?_) (fun z => iteF ?_)⟩
      · have z' : (k : Int) < (ws.length : Int) := of_decide_eq_true z
        have kl : k < ws.length := by omega
        obtain ⟨a, ha⟩ : ∃ a, ws[k]? = some a := ⟨_, List.getElem?_eq_getElem kl⟩
        have am := List.mem_of_getElem? ha
        have dr : ws.drop k = a :: ws.drop (k + 1) := by
          rw [List.drop_eq_getElem_cons kl]
          congr 1
          rw [List.getElem?_eq_getElem kl] at ha
          exact Option.some.inj ha
        by_cases na : NmOk a
        · refine ⟨_, rfl, _, rfl, l, _, _, _, rfl, rfl, SqL.of hl, at1 k a ha, .str a, true, rfl, nmb _ a true am ⟨fun _ => na, fun _ => rfl⟩, fun H2 s2 => ⟨_, rfl, iteT ?_⟩⟩
          have hl2 := s2 _ _ hl
          refine ⟨small2, fun p np => ?_⟩
          have s3 := same_new (o := .tup [.int 1, .int 1]) np
          have h3 := upd_same (H := H2) (a := p) (o := .tup [.int 1, .int 1])
          have hl3 := s3 _ _ hl2
          have S3 := s2.trans s3
          generalize upd H2 p (.tup [.int 1, .int 1]) = H3 at s3 h3 hl3 S3 ⊢
          refine ⟨_, rfl, _, rfl, l, _, _, _, rfl, rfl, SqL.of hl3, at1 k a ha, _, rfl, (k : Int), 1, rfl, rfl, by show 3 ≤ sizeLine; decide, fun t nt => ?_⟩
          have s4 := same_new (o := .tup [.ref p, .str a, .int ((k : Int) + 1)]) nt
          exact q1 a (1, 1) 1 (by rw [dr]; exact lt0_nm na) _ t p (S3.trans s4) (S3.free nt) upd_same (s4 _ _ h3) na
        · refine ⟨_, rfl, _, rfl, l, _, _, _, rfl, rfl, SqL.of hl, at1 k a ha, .str a, false, rfl, nmb _ a false am ⟨fun z => (by cases z), fun z => absurd z na⟩, fun H2 s2 => ⟨_, rfl, iteF ?_⟩⟩
          exact key _ _ ⟨rfl, s2, .inr ⟨a, ha, na⟩⟩
      · exact key _ _ ⟨rfl, Same.refl _, .inl (Classical.byContradiction fun y => z (decide_eq_true (by show (k : Int) < (ws.length : Int); omega)))⟩
    case cont =>
      rintro σ H1 ⟨rfl, s1, hk⟩
      have hl1 := s1 _ _ hl
      refine ⟨_, rfl, (k : Int), 1, rfl, rfl, _, rfl, l, _, rfl, .inl (SqL.of hl1), (k : Int) + 1, (ws.length : Int), rfl, congrArg V.int el, _, rfl, ite2 (fun z => ?_) (fun z => ?_)⟩
      · have z' : (ws.length : Int) ≤ (k : Int) + 1 := of_decide_eq_true z
        refine q0 ?_ _ s1
        rcases hk with h | ⟨a, ha, na⟩
        · rw [List.drop_of_length_le h]
          rfl
        · have kl := (List.getElem?_eq_some_iff.mp ha).1
          rw [List.drop_eq_getElem_cons kl, List.drop_of_length_le (by omega)]
          have ea : ws[k] = a := (List.getElem?_eq_some_iff.mp ha).2
          rw [ea]
          exact lt0_one na
      · have z' : ¬ (ws.length : Int) ≤ (k : Int) + 1 := fun y => z (decide_eq_true y)
        have kl : k + 1 < ws.length := by omega
        obtain ⟨a, ha, na⟩ := hk.resolve_left (by omega)
        obtain ⟨b, hb⟩ : ∃ b, ws[k + 1]? = some b := ⟨_, List.getElem?_eq_getElem kl⟩
        have am := List.mem_of_getElem? ha
        have bm := List.mem_of_getElem? hb
        have dr : ws.drop k = a :: b :: ws.drop (k + 2) := by
          rw [List.drop_eq_getElem_cons (by omega : k < ws.length), List.drop_eq_getElem_cons kl]
          have ea : ws[k]'(by omega) = a := (List.getElem?_eq_some_iff.mp ha).2
          have eb : ws[k + 1] = b := (List.getElem?_eq_some_iff.mp hb).2
          rw [ea, eb]
        rw [dr] at q0 q1
        by_cases nb : NmOk b
        rotate_left
        · refine ⟨_, rfl, _, rfl, (k : Int), 1, rfl, rfl, l, _, _, _, rfl, rfl, SqL.of hl1, at1 (k + 1) b hb, .str b, false, rfl, nmb _ b false bm ⟨fun z => (by cases z), fun z => absurd z nb⟩, fun H2 s2 => ⟨_, rfl, iteT (q0 (lt0_no na nb) _ (s1.trans s2))⟩⟩
        refine ⟨_, rfl, _, rfl, (k : Int), 1, rfl, rfl, l, _, _, _, rfl, rfl, SqL.of hl1, at1 (k + 1) b hb, .str b, true, rfl, nmb _ b true bm ⟨fun _ => nb, fun _ => rfl⟩, fun H2 s2 => ⟨_, rfl, iteF ?_⟩⟩
        have S2 := s1.trans s2
        have hl2 := s2 _ _ hl1
        refine ⟨_, rfl, _, rfl, l, _, _, _, rfl, rfl, SqL.of hl2, at1 k a ha, a, rfl, hz a am, fun er H3 s3 => ?_, fun M er H3 p s3 np hp => ?_⟩
        · exact ⟨_, rfl, rfl, _, rfl, ite2 (fun _ => q0 (lt0_non na er) _ (S2.trans s3)) (fun z => absurd (decide_eq_true rfl) z)⟩
        · have S3 := S2.trans s3
          have hl3 := s3 _ _ hl2
          refine ⟨_, rfl, rfl, _, rfl, ite2 (fun z => by cases of_decide_eq_true z) (fun _ => ?_)⟩
          refine ⟨_, rfl, p, _, 0, _, rfl, rfl, SqT.of hp, atI_nat (j := 0) rfl, M.1, 1, rfl, rfl, _, rfl, ite2 (fun z => ?_) (fun z => ?_)⟩
          · exact q0 (lt0_bad na er (.inl (of_decide_eq_true z))) _ S3
          have m1 : ¬ M.1 < 1 := fun y => z (decide_eq_true y)
          refine ⟨_, rfl, small2, fun o no => ?_⟩
          have s4 := same_new (o := .tup [.int 1, .int 1]) no
          have h4 := upd_same (H := H3) (a := o) (o := .tup [.int 1, .int 1])
          have S4 := S3.trans s4
          have hp4 := s4 _ _ hp
          have hl4 := s4 _ _ hl3
          generalize upd H3 o (.tup [.int 1, .int 1]) = H4 at s4 h4 S4 hp4 hl4 ⊢
          refine ⟨.tuple [.int M.1, .int M.2], .tuple [.int 1, .int 1], .tup (SqT.of hp4) (.cons (.int _) (.cons (.int _) .nil)), .tup (SqT.of h4) (.cons (.int _) (.cons (.int _) .nil)), rfl, rfl, _, rfl, ?_⟩
          rw [eqv_one]
          refine ite2 (fun e => ?_) (fun e => ?_)
          · rw [Bool.and_eq_true, beq_iff_eq, beq_iff_eq] at e
            exact q0 (lt0_bad na er (.inr (Prod.ext e.1 e.2))) _ S4
          · have ne : ¬ (M.1 < 1 ∨ M = (1, 1)) := fun y => by
              rcases y with y | y
              · exact m1 y
              · rw [y] at e
                exact e (by decide)
            refine ⟨_, rfl, _, rfl, _, rfl, (k : Int), 1, rfl, rfl, l, _, _, _, rfl, rfl, SqL.of hl4, at1 (k + 1) b hb, _, rfl, (k : Int), 2, rfl, rfl, by show 3 ≤ sizeLine; decide, fun t nt => ?_⟩
            have s5 := same_new (o := .tup [.ref p, .str b, .int ((k : Int) + 2)]) nt
            exact q1 b M 2 (lt0_rd na nb er ne) _ t p (S4.trans s5) (S4.free nt) upd_same (s5 _ _ hp4) nb
end
end SS
namespace SS
open PySem PySem.Spec PyProof.Rows L2 TL NumText
def sgS (b : Bool) : Str := if b = true then "-" else "+"
theorem ng_app {a b : List Nat} : ngB (a ++ 32 :: b) = ngB a := by
  cases a with
  | nil => rfl
  | cons c r => rfl
theorem bare_app {a b : List Nat} : bare (a ++ 32 :: b) = bare a ++ 32 :: b := by
  unfold bare
  rw [ng_app]
  split
  · rename_i h
    cases a with
    | nil => cases h
    | cons c r => rfl
  · rfl
theorem no32_bare {a : List Nat} (h : 32 ∉ a) : 32 ∉ bare a := by
  unfold bare
  split
  · exact fun z => h (List.mem_of_mem_tail z)
  · exact h
/-- the law's words are the program's -/
theorem wdsL (x : Str) : ∃ w0 wr, Txt.split x " " = w0 :: wr ∧ wdsP x = sgS (ngB (tl w0)) :: cutS w0 (some (if ngB (tl w0) = true then 1 else 0)) none :: wr := by
  have es : (Txt.split x " ").map tl = spl [32] 0 [] (tl x) := by
    rw [split_spl _ _ (by rw [tl_blank]; simp) (kind_ok (by decide +kernel)), tl_blank]
  have sgt : ∀ b, tl (sgS b) = [if b = true then 45 else 43] := by decide
  rcases cut32 (tl x) with h | ⟨a, b, e, h⟩
  · rw [spl32_one h] at es
    obtain ⟨w0, ew⟩ : ∃ w0, Txt.split x " " = [w0] := by
      have l := congrArg List.length es
      rw [List.length_map] at l
      exact List.length_eq_one_iff.mp l
    rw [ew] at es
    have e0 : tl w0 = tl x := (List.cons.inj es).1
    refine ⟨w0, [], ew, map_tl_inj ?_⟩
    rw [wdsP_tl, spl32_one (no32_bare h), List.map_cons, List.map_cons, cut_bare, sgt, e0]
    rfl
  · rw [e, spl32_cut h] at es
    obtain ⟨w0, wr, ew⟩ : ∃ w0 wr, Txt.split x " " = w0 :: wr := by
      have l := congrArg List.length es
      rw [List.length_map, List.length_cons] at l
      exact List.exists_cons_of_ne_nil fun z => by rw [z] at l; cases l
    rw [ew] at es
    have e0 : tl w0 = a := (List.cons.inj es).1
    have e1 : wr.map tl = spl [32] 0 [] b := (List.cons.inj es).2
    refine ⟨w0, wr, ew, map_tl_inj ?_⟩
    rw [wdsP_tl, e, bare_app, spl32_cut (no32_bare h), List.map_cons, List.map_cons, cut_bare, sgt, e0, e1]
    unfold sgCh
    rw [ng_app]
theorem fOf_snoc {dn : List (Str × (Int × Int))} {p : Str × (Int × Int)} (h : p.1 ∉ dn.map (·.1)) (k : Key) : fOf (dn ++ [p]) k = if k = .inr p.1 then p.2 else fOf dn k := by
  cases k with
  | inl i => rfl
  | inr x =>
    show (((dn ++ [p]).find? fun q => decide (q.1 = x)).map (·.2)).getD (0, 1) = _
    rw [List.find?_append]
    by_cases c : x = p.1
    · rw [if_pos (congrArg Sum.inr c)]
      have e : dn.find? (fun q => decide (q.1 = x)) = none := List.find?_eq_none.mpr fun q hq z => h (by
        rw [← c, ← of_decide_eq_true z]
        exact List.mem_map.mpr ⟨q, hq, rfl⟩)
      rw [e]
      show ((List.find? (fun q => decide (q.1 = x)) [p]).map (·.2)).getD (0, 1) = _
      rw [List.find?_cons, decide_eq_true c.symm]
      rfl
    · rw [if_neg fun z => c (Sum.inr.inj z)]
      have e : [p].find? (fun q => decide (q.1 = x)) = none := List.find?_eq_none.mpr fun q hq z => c (by
        rw [← of_decide_eq_true z, List.mem_singleton.mp hq])
      rw [e]
      show _ = ((dn.find? fun q => decide (q.1 = x)).map (·.2)).getD (0, 1)
      cases dn.find? (fun q => decide (q.1 = x)) <;> rfl
theorem keys_put_new {kvs : List (Key × V)} {ts : List Str} {x : Str} {v : V} (e : kvs.map (·.1) = ts.map Sum.inr) (h : x ∉ ts) : (putK kvs (.inr x) v).map (·.1) = (ts ++ [x]).map Sum.inr := by
  unfold putK
  rw [if_neg]
  · rw [List.map_append, List.map_append, e]
    rfl
  · intro z
    obtain ⟨p, hp, hd⟩ := List.any_eq_true.mp z
    have e2 := of_decide_eq_true hd
    have m : p.1 ∈ ts.map Sum.inr := by
      rw [← e]
      exact List.mem_map.mpr ⟨p, hp, rfl⟩
    rw [e2] at m
    obtain ⟨t, ht, et⟩ := List.mem_map.mp m
    exact h (by rw [← Sum.inr.inj et]; exact ht)
theorem keys_put_old {kvs : List (Key × V)} {ts : List Str} {x : Str} {v : V} (e : kvs.map (·.1) = ts.map Sum.inr) (h : x ∈ ts) : (putK kvs (.inr x) v).map (·.1) = ts.map Sum.inr := by
  unfold putK
  rw [if_pos]
  · rw [← e, List.map_map]
    refine List.map_congr_left fun p _ => ?_
    show (if p.1 = _ then (p.1, v) else p).1 = p.1
    split <;> rfl
  · have m : (Sum.inr x : Key) ∈ kvs.map (·.1) := by
      rw [e]
      exact List.mem_map.mpr ⟨x, h, rfl⟩
    obtain ⟨p, hp, ep⟩ := List.mem_map.mp m
    exact List.any_eq_true.mpr ⟨p, hp, decide_eq_true ep⟩
theorem DM.cut {z : Prop} {m n : Nat} {H : Hp} {a : Addr} {kvs : List (Key × V)} {f : Key → Int × Int} (h : DM z m H a kvs f) (l : kvs.length ≤ n) : DM z n H a kvs f := ⟨h.1, h.2.1, l, h.2.2.2⟩
theorem walkL_step {n : Nat} {pr : Option Str} {wd r : List Str} {p : Str × (Int × Int)} (h : rterm true wd = some (p, r)) (hn : wd.length ≤ n) (hp : ∀ q, pr = some q → ltT q p.1) : ∃ n', n = n' + 1 ∧ r.length ≤ n' ∧ walkT true n pr wd = (walkT true n' (some p.1) r).map (fun ps => p :: ps) := by
  have hl := rterm_len h
  cases wd with
  | nil => cases h
  | cons w ws =>
    obtain ⟨n', rfl⟩ : ∃ n', n = n' + 1 := ⟨n - 1, by rw [List.length_cons] at hn; omega⟩
    rw [List.length_cons] at hn hl
    refine ⟨n', rfl, by omega, ?_⟩
    generalize eo : walkT true n' (some p.1) r = o
    unfold walkT
    rw [h]
    simp only []
    rw [if_neg, eo]
    · cases o <;> rfl
    · rintro ⟨_, q, eq, z⟩
      have y := hp q eq
      unfold ltT at y
      rw [y] at z
      cases z
theorem walkL_stop {n : Nat} {pr : Option Str} {wd : List Str} (hw : wd ≠ []) (h : rterm true wd = none ∨ ∃ p r q, rterm true wd = some (p, r) ∧ pr = some q ∧ ltCps q.cps.toList p.1.cps.toList = false) : walkT true n pr wd = none := by
  cases wd with
  | nil => exact absurd rfl hw
  | cons w ws =>
    cases n with
    | zero => rfl
    | succ n =>
      unfold walkT
      rcases h with h | ⟨p, r, q, h, e, z⟩
      · rw [h]
      · rw [h]
        simp only []
        rw [if_pos ⟨trivial, q, e, z⟩]
end SS
namespace SS
open PySem PySem.Spec PyProof.Rows L2 TL NumText
theorem lt0_facts {zs : List Str} {x : Str} {M : Int × Int} {n : Nat} (h : lt0 zs = some ((x, M), n)) : NmOk x ∧ 1 ≤ M.1 ∧ n ≤ zs.length ∧ 1 ≤ n := by
  cases zs with
  | nil => cases h
  | cons a r =>
    by_cases na : NmOk a
    · rw [lt0_nm na] at h
      cases h
      exact ⟨na, by decide, by rw [List.length_cons]; omega, by decide⟩
    · cases r with
      | nil =>
        rw [lt0_one na] at h
        cases h
      | cons b r =>
        by_cases nb : NmOk b
        · cases e : rd (tl a) with
          | none =>
            rw [lt0_non na e] at h
            cases h
          | some N =>
            by_cases c : N.1 < 1 ∨ N = (1, 1)
            · rw [lt0_bad na e c] at h
              cases h
            · rw [lt0_rd na nb e c] at h
              cases h
              exact ⟨nb, by omega, by rw [List.length_cons, List.length_cons]; omega, by decide⟩
        · rw [lt0_no na nb] at h
          cases h
section
variable {P : Program} {w : World} {K : PySem.W.Frag} {mg : Str → Option Value} {base : Heap}
/-! ### _law_read_words -/
def spRdWs : Sp := fun vs H Q _ => ∃ x : Str, vs = [.str x] ∧ x.length ≤ 890 ∧ (tl x).count 32 ≤ 35 ∧ (outS x = none → ∀ H', Same H H' → Q .non H') ∧ (∀ ps, outS x = some ps → ∀ H' c ks, Same H H' → H c = none → DM True 18 H' c ks (fOf ps) → Q (.ref c) H')
theorem scRdWs : FnScope ["_law_text", "_law_words", "_law_below", "_law_found", "_law_at", "_law_term_here"] ["_law_text"] (defScope sRdWs) := ⟨rfl, rfl, rfl, by decide +kernel, rfl, by decide +kernel, by decide +kernel⟩
set_option maxHeartbeats 4000000 in
theorem ok_rdws {f : Addr} {fd : FuncData} (F : Fun K "_law_read_words" "_law_read_words" sRdWs f fd) (mi : mg "int" = none) (ml : mg "len" = none) (mm : mg "max" = none) (lt : Cl P w K mg base CX0 3 "_law_term" (spLTm K) []) (tu : Cl P w K mg base CX0 1 "_law_turned" spTurned []) : FnOk P w K mg base CX0 4 f fd ["_law_text"] spRdWs := by
  refine F.ok scRdWs (fun vs H Q E h => ?_) (fun cdv A outer s H vs Q E hr h => ?_)
  · obtain ⟨_, rfl, _⟩ := h
    rfl
  · obtain ⟨x, rfl, xl, xc, q0, q1⟩ := h
    have hu := hu_of hr
    refine ⟨_, pss_cons (ps_if (pt_cmpR op_eq (pv 0) pe_str (nomark _)) (pss_one (ps_ret pe_dnewK)) pss_nil)
      (pss_cons (ps_set (i := 1) scRdWs.nd rfl (.inl rfl) (pe_split (pv 0) pe_str))
      (pss_cons (ps_set (i := 2) scRdWs.nd rfl (.inl rfl) (pe_cmpR op_eq (pe_slice sl_str (pe_ix ix_list (pv 1) pe_int (fun _ _ => rfl)) po_none (po_some pe_int)) pe_str (nomark _)))
      (pss_cons (ps_set (i := 1) scRdWs.nd rfl (.inl rfl) (pe_op op_cat (pe_lst (pa_cons (pe_ix ix_str pe_str (pe_callTy call_int1 (by rfl) mi (by decide +kernel) (pa_cons (pv 2) pa_nil)) (fun _ _ => rfl)) (pa_cons (pe_slice sl_str (pe_ix ix_list (pv 1) pe_int (fun _ _ => rfl)) (po_some (pe_callTy call_int1 (by rfl) mi (by decide +kernel) (pa_cons (pv 2) pa_nil))) po_none) pa_nil))) (pe_slice sl_list (pv 1) (po_some pe_int) po_none)))
      (pss_cons (ps_set (i := 3) scRdWs.nd rfl (.inl rfl) pe_dnewK)
      (pss_cons (ps_set (i := 4) scRdWs.nd rfl (.inl rfl) pe_int)
      (pss_cons (ps_while PassesOwn.never (pt_cmpR op_lt (pv 4) (pe_callB call_len_seq (by rfl) ml PySem.boot_len (pa_cons (pv 1) pa_nil)) (nomark _))
        (pss_cons (ps_set (i := 5) scRdWs.nd rfl (.inl rfl) (pc0 lt hr (by decide) (pa_cons (pv 1) (pa_cons (pe_op op_add (pv 4) pe_int) pa_nil))))
        (pss_cons (ps_if (PW.pt (pw_or (pt_cmpR op_notIn_seq (pe_ix ix_list (pv 1) (pv 4) (fun _ _ => rfl)) (pe_tup (pa_cons pe_str (pa_cons pe_str pa_nil))) rfl) (pw_or (pt_cmpR op_isN (pv 5) pe_non (nomark _))
            (pw_or1 (PW.pt (pw_and (pt_cmpR (op_ne0 hr.units) (pv 3) pe_dnewK (nomark _)) (pw_and1 (pt_cmpR op_le_str (pe_ix ix_tup (pv 5) pe_int (fun _ _ => rfl)) (pe_callB (cr_maxT rfl) (by rfl) mm boot_max (pa_cons (pv 3) pa_nil)) (nomark _))))))))) (pss_one (ps_ret pe_non)) pss_nil)
        (pss_cons (ps_dput hu (pv 3) (pe_ix ix_tup (pv 5) pe_int (fun _ _ => rfl)) (pe_ix ix_tup (pv 5) pe_int (fun _ _ => rfl)) rfl)
        (pss_cons (ps_if (pt_cmpR op_eq (pe_ix ix_list (pv 1) (pv 4) (fun _ _ => rfl)) pe_str (nomark _)) (pss_one (ps_dput hu (pv 3) (pe_ix ix_tup (pv 5) pe_int (fun _ _ => rfl)) (pc0 tu hr (by decide) (pa_cons (pe_ix ix_tup (pv 5) pe_int (fun _ _ => rfl)) pa_nil)) rfl)) pss_nil)
        (pss_one (ps_set (i := 4) scRdWs.nd rfl (.inl rfl) (pe_ix ix_tup (pv 5) pe_int (fun _ _ => rfl)))))))))
      (pss_one (ps_ret (pv 3))))))))), ?_⟩
    have xs : x.length ≤ sizeLine := sz5 (by omega)
    refine ⟨_, rfl, rfl, _, rfl, ite2 (fun z => ?_) (fun z => ?_)⟩
    · have e0 : x = "0" := V.str.inj (of_decide_eq_true z)
      intro D nD
      have eo : outS x = some [] := by
        unfold outS
        rw [if_pos e0]
      exact q1 _ eo _ D [] (same_new nD) nD (dm_nil upd_same fun k => by cases k <;> rfl)
    have ne0 : x ≠ "0" := fun e => z (decide_eq_true (congrArg V.str e))
    have eoS : outS x = walkT true (wdsP x).length none (wdsP x) := if_neg ne0
    have e1 : ((" " : Str)).length = 1 := by decide
    refine ⟨_, rfl, ⟨_, rfl⟩, x, " ", rfl, rfl, by decide, sz5 (by omega), fun l nl => ?_⟩
    obtain ⟨w0, wr, ew, ep⟩ := wdsL x
    have wl := wdsP_len x
    have we := wdsP_each x
    rw [ew]
    have w0l : w0.length ≤ 900 := by
      have es : (Txt.split x " ").map tl = spl [32] 0 [] (tl x) := by
        rw [split_spl _ _ (by rw [tl_blank]; simp) (kind_ok (by decide +kernel)), tl_blank]
      rw [ew] at es
      have m : tl w0 ∈ spl [32] 0 [] (tl x) := by
        rw [← es]
        exact List.mem_cons_self
      have k := ((join_spl _ (tl x) (Nat.le_refl _)).2.1 _ m).2
      rw [len_tl]
      rw [len_tl] at xl
      omega
    have s1 := same_new (o := .lst ((w0 :: wr).map V.str)) nl
    have hl := upd_same (H := H) (a := l) (o := .lst ((w0 :: wr).map V.str))
    generalize upd H l (.lst ((w0 :: wr).map V.str)) = H1 at s1 hl ⊢
    have a0 : atI ((w0 :: wr).map V.str) ((0 : Nat) : Int) = some (.str w0) := atI_nat rfl
    have w0s : w0.length ≤ sizeLine := sz5 (by omega)
    refine ⟨_, rfl, l, _, 0, _, rfl, rfl, SqL.of hl, a0, 1, rfl, w0, rfl, w0s, rfl, ?_⟩
    rw [cut_ng]
    have hc : ∀ b : Bool, atI ("+-" : Str).cps.toList (if b = true then 1 else 0) = some (if b = true then 45 else 43) := by decide
    have hs : ∀ b : Bool, (⟨#[if b = true then 45 else 43]⟩ : Str) = sgS b := by decide
    have len2 : ("+-" : Str).length ≤ sizeLine := sz5 (by decide)
    refine ⟨_, rfl, .inr ⟨ngB (tl w0), rfl, "+-", _, _, rfl, rfl, len2, hc _, _, rfl, l, _, 0, _, rfl, rfl, SqL.of hl, a0, _, rfl, .inr ⟨ngB (tl w0), rfl, _, rfl, w0, rfl, w0s, small2, fun L nL => ?_⟩⟩⟩
    rw [hs]
    have s2 := same_new (o := .lst [.str (sgS (ngB (tl w0))), .str (cutS w0 (some (if ngB (tl w0) = true then 1 else 0)) none)]) nL
    have hL := upd_same (H := H1) (a := L) (o := .lst [.str (sgS (ngB (tl w0))), .str (cutS w0 (some (if ngB (tl w0) = true then 1 else 0)) none)])
    generalize upd H1 L (.lst [.str (sgS (ngB (tl w0))), .str (cutS w0 (some (if ngB (tl w0) = true then 1 else 0)) none)]) = H2 at s2 hL ⊢
    have hl2 := s2 _ _ hl
    refine ⟨_, rfl, 1, rfl, l, _, rfl, SqL.of hl2, fun S nS => ?_⟩
    have cutE : cutV ((w0 :: wr).map V.str) (some 1) none = wr.map V.str := cutV_drop ((w0 :: wr).map V.str) 1
    rw [cutE]
    have s3 := same_new (o := .lst (wr.map V.str)) nS
    have hS := upd_same (H := H2) (a := S) (o := .lst (wr.map V.str))
    have hL3 := s3 _ _ hL
    generalize upd H2 S (.lst (wr.map V.str)) = H3 at s3 hS hL3 ⊢
    have wrl : wr.length ≤ 60 := by
      rw [ep, List.length_cons, List.length_cons] at wl
      omega
    refine ⟨L, S, _, _, rfl, rfl, hL3, hS, ?_, fun W nW => ?_⟩
    · rw [List.length_map]
      exact sz5 (by show 2 + wr.length ≤ _; omega)
    have eW : ([V.str (sgS (ngB (tl w0))), V.str (cutS w0 (some (if ngB (tl w0) = true then 1 else 0)) none)] ++ wr.map V.str) = (wdsP x).map V.str := by
      rw [ep]
      rfl
    rw [eW]
    have wq : ∀ z ∈ wdsP x, z.length ≤ 900 := fun z hz => by
      have := we z hz
      omega
    generalize wdsP x = ws at *
    have s4 := same_new (o := .lst (ws.map V.str)) nW
    have hW := upd_same (H := H3) (a := W) (o := .lst (ws.map V.str))
    have S4 := ((s1.trans s2).trans s3).trans s4
    generalize upd H3 W (.lst (ws.map V.str)) = H4 at s4 hW S4 ⊢
    intro D nD
    have s5 := same_new (o := .dK []) nD
    have hD := upd_same (H := H4) (a := D) (o := .dK [])
    have nD0 : H D = none := S4.free nD
    have WD : W ≠ D := ne_of_none hW nD
    have S5 := S4.trans s5
    have hW5 := s5 _ _ hW
    generalize upd H4 D (.dK []) = H5 at hD S5 hW5 ⊢
    clear s1 s2 s3 s4 s5 hl hL hl2 hS hL3 hW
    have el : ((ws.map V.str).length : Int) = (ws.length : Int) := by rw [List.length_map]
    refine ⟨fun m σ H' => ∃ (i : Nat) (dn : List (Str × (Int × Int))) (kvs : List (Key × V)) (n : Nat) (pr : Option Str) (y5 : Option V), σ = [some (.str x), some (.ref W), some (.bl (ngB (tl w0))), some (.ref D), some (.int (i : Int)), y5] ∧ Same H H' ∧ H' W = some (.lst (ws.map V.str)) ∧ DM True dn.length H' D kvs (fOf dn) ∧ kvs.map (·.1) = (dn.map (·.1)).map Sum.inr ∧
        ((dn = [] ∧ pr = none) ∨ ∃ q, pr = some q ∧ q ∈ dn.map (·.1) ∧ ∀ t ∈ dn.map (·.1), t = q ∨ ltT t q) ∧ i ≤ ws.length ∧ m = ws.length - i ∧ ws.length - i ≤ n ∧ 2 * dn.length + (ws.length - i) ≤ 37 ∧ walkT true ws.length none ws = (walkT true n pr (ws.drop i)).map (fun ps => dn ++ ps),
      ⟨_, 0, [], [], ws.length, none, none, rfl, S5, hW5, dm_nil hD (fun k => by cases k <;> rfl), rfl, .inl ⟨rfl, rfl⟩, Nat.zero_le _, rfl, Nat.le_refl _, (by rw [List.length_nil]; omega), (by rw [List.drop_zero]; cases walkT true ws.length none ws <;> rfl)⟩, ?_⟩
    rintro m σ H' ⟨i, dn, kvs, n, pr, y5, rfl, S6, hW6, d6, ek, hpr, il, rfl, wn, lim, ewk⟩
    refine ⟨_, rfl, _, rfl, W, _, rfl, .inl (SqL.of hW6), (i : Int), (ws.length : Int), rfl, congrArg V.int el, _, rfl, ite2 (fun z => ?_) (fun z => ?_)⟩
    rotate_left
    · have z' : ¬ (i : Int) < (ws.length : Int) := fun y => z (decide_eq_true y)
      have ei : ws.drop i = [] := List.drop_of_length_le (by omega)
      have eo : outS x = some dn := by
        rw [eoS, ewk, ei]
        have : walkT true n pr [] = some [] := by cases n <;> rfl
        rw [this]
        show some (dn ++ []) = some dn
        rw [List.append_nil]
      exact ⟨_, rfl, q1 _ eo _ D kvs S6 nD0 (d6.mono (by omega))⟩
    have z' : (i : Int) < (ws.length : Int) := of_decide_eq_true z
    have il2 : i < ws.length := by omega
    obtain ⟨sn, hsn⟩ : ∃ sn, ws[i]? = some sn := ⟨_, List.getElem?_eq_getElem il2⟩
    have dr : ws.drop i = sn :: ws.drop (i + 1) := by
      rw [List.drop_eq_getElem_cons il2]
      congr 1
      exact (List.getElem?_eq_some_iff.mp hsn).2
    have asn : atI (ws.map V.str) (i : Int) = some (.str sn) := atI_nat (by rw [List.getElem?_map, hsn]; rfl)
    have drn : ws.drop i ≠ [] := by
      rw [dr]
      exact fun y => by cases y
    have dlen : (ws.drop i).length ≤ n := by
      rw [List.length_drop]
      exact wn
    have kl : kvs.length = dn.length := by
      have y := congrArg List.length ek
      rw [List.length_map, List.length_map, List.length_map] at y
      exact y
    have none_of : (rterm true (ws.drop i) = none ∨ ∃ p r q, rterm true (ws.drop i) = some (p, r) ∧ pr = some q ∧ ltCps q.cps.toList p.1.cps.toList = false) → outS x = none := fun h => by
      rw [eoS, ewk, walkL_stop drn h]
      rfl
    refine ⟨fun σ' H'' => ∃ (i' : Nat) (dn : List (Str × (Int × Int))) (kvs : List (Key × V)) (n : Nat) (pr : Option Str) (y5 : Option V), σ' = [some (.str x), some (.ref W), some (.bl (ngB (tl w0))), some (.ref D), some (.int (i' : Int)), y5] ∧ Same H H'' ∧ H'' W = some (.lst (ws.map V.str)) ∧ DM True dn.length H'' D kvs (fOf dn) ∧ kvs.map (·.1) = (dn.map (·.1)).map Sum.inr ∧
        ((dn = [] ∧ pr = none) ∨ ∃ q, pr = some q ∧ q ∈ dn.map (·.1) ∧ ∀ t ∈ dn.map (·.1), t = q ∨ ltT t q) ∧ i' ≤ ws.length ∧ i < i' ∧ ws.length - i' ≤ n ∧ 2 * dn.length + (ws.length - i') ≤ 37 ∧ walkT true ws.length none ws = (walkT true n pr (ws.drop i')).map (fun ps => dn ++ ps), fun σ' H'' hN => ?_, ?_⟩
    · obtain ⟨a1, a2, a3, a4, a5, a6, b1, b2, b3, b4, b5, b6, b7, b8, b9, b10, b11⟩ := hN
      exact ⟨ws.length - a1, by omega, a1, a2, a3, a4, a5, a6, b1, b2, b3, b4, b5, b6, b7, rfl, b9, b10, b11⟩
    · refine ⟨_, rfl, _, rfl, (i : Int), 1, rfl, rfl, W, ws, i + 1, rfl, hW6, wq, fun en H7 s7 => ?_, fun y M n' en H7 t p s7 nt ht hp ny => ?_⟩
      · have hW7 := s7 _ _ hW6
        have S7 := S6.trans s7
        refine ⟨_, rfl, _, rfl, W, _, _, _, rfl, rfl, SqL.of hW7, asn, small2, fun U nU => ?_⟩
        have sU := same_new (o := .tup [.str "+", .str "-"]) nU
        have hU := upd_same (H := H7) (a := U) (o := .tup [.str "+", .str "-"])
        generalize upd H7 U (.tup [.str "+", .str "-"]) = H8 at sU hU ⊢
        refine ⟨U, _, rfl, .inr (SqT.of hU), rfl, rfl, ?_⟩
        rw [isSg_inV]
        cases sg : isSgB sn with
        | false => exact ⟨_, rfl, iteT (q0 (none_of (.inl (by rw [dr]; exact rt_nosg sg))) _ (S7.trans sU))⟩
        | true => exact ⟨_, rfl, iteF ⟨_, rfl, rfl, _, rfl, ite2 (fun _ => q0 (none_of (.inl (by rw [dr, rterm_lt0 _ sg, en]; rfl))) _ (S7.trans sU)) (fun z => absurd (decide_eq_true rfl) z)⟩⟩
      · have hW7 := s7 _ _ hW6
        have S7 := S6.trans s7
        have d7 := d6.same s7
        refine ⟨_, rfl, _, rfl, W, _, _, _, rfl, rfl, SqL.of hW7, asn, small2, fun U nU => ?_⟩
        have sU := same_new (o := .tup [.str "+", .str "-"]) nU
        have hU := upd_same (H := H7) (a := U) (o := .tup [.str "+", .str "-"])
        replace hW7 := sU _ _ hW7
        replace S7 := S7.trans sU
        replace d7 := d7.same sU
        replace ht := sU _ _ ht
        replace hp := sU _ _ hp
        generalize upd H7 U (.tup [.str "+", .str "-"]) = H8 at sU hU hW7 S7 d7 ht hp ⊢
        refine ⟨U, _, rfl, .inr (SqT.of hU), rfl, rfl, ?_⟩
        rw [isSg_inV]
        rcases Bool.eq_false_or_eq_true (isSgB sn) with sg | sg
        rotate_left
        · rw [sg]
          exact ⟨_, rfl, iteT (q0 (none_of (.inl (by rw [dr]; exact rt_nosg sg))) _ S7)⟩
        rw [sg]
        have ert : rterm true (ws.drop i) = some ((y, sgnd sn M), ws.drop (i + 1 + n')) := by
          rw [dr, rterm_lt0 _ sg, en]
          show some ((y, sgnd sn M), (ws.drop (i + 1)).drop n') = _
          rw [List.drop_drop]
        obtain ⟨_, m1, nle, n1⟩ := lt0_facts en
        rw [List.length_drop] at nle
        refine ⟨_, rfl, iteF ⟨_, rfl, rfl, _, rfl, ite2 (fun z => by cases of_decide_eq_true z) (fun _ => ?_)⟩⟩
        refine ⟨_, rfl, fun E0 nE => ?_⟩
        have sE := same_new (o := .dK []) nE
        have hE := upd_same (H := H8) (a := E0) (o := .dK [])
        replace hW7 := sE _ _ hW7
        replace S7 := S7.trans sE
        replace d7 := d7.same sE
        replace ht := sE _ _ ht
        replace hp := sE _ _ hp
        generalize upd H8 E0 (.dK []) = H9 at sE hE hW7 S7 d7 ht hp ⊢
        refine' mid (C := _) (Inv := fun σ H'' => H'' = H9 ∧ σ = [some (.str x), some (.ref W), some (.bl (ngB (tl w0))), some (.ref D), some (.int (i : Int)), some (.ref t)] ∧ ∀ q, pr = some q → ltT q y) (fun key => ?main) ?cont
        case main =>
          refine ⟨D, E0, kvs, rfl, rfl, d7.1, hE, ?_⟩
          rcases hpr with ⟨ed, ep0⟩ | ⟨q, eq, qm, qall⟩
          · have z0 : kvs.length = 0 := by rw [kl, ed]; rfl
            rw [z0]
            refine ⟨_, rfl, iteF (iteF ?_)⟩
            exact key _ _ ⟨rfl, rfl, fun q e => by rw [ep0] at e; cases e⟩
          · have z0 : (kvs.length == 0) = false := by
              cases dn with
              | nil => cases qm
              | cons a r =>
                rw [kl]
                rfl
            rw [z0]
            refine ⟨_, rfl, iteT ⟨_, rfl, t, _, 1, _, rfl, rfl, SqT.of ht, atI_nat (j := 1) rfl, _, rfl, D, kvs, dn.map (·.1), rfl, d7.1, ek, (fun e => by rw [e] at qm; cases qm), fun m' mm' mall => ?_⟩⟩
            have em : m' = q := by
              rcases qall m' mm' with e | e
              · exact e
              · have e2 := mall q qm
                unfold leS at e2
                unfold ltT at e
                rw [e] at e2
                cases e2
            rw [em]
            refine ⟨y, q, rfl, rfl, _, rfl, ?_⟩
            rw [show (decide (q.cps.toList < y.cps.toList)) = ltCps q.cps.toList y.cps.toList from (ltCps_eq _ _).symm]
            cases c : ltCps q.cps.toList y.cps.toList with
            | false => exact iteT (q0 (none_of (.inr ⟨_, _, q, ert, eq, c⟩)) _ S7)
            | true => exact iteF (key _ _ ⟨rfl, rfl, fun q' e => by rw [eq] at e; rw [← Option.some.inj e]; exact c⟩)
        case cont =>
          rintro σ H'' ⟨rfl, rfl, asc⟩
          have ynew : y ∉ dn.map (·.1) := fun hy => by
            rcases hpr with ⟨ed, _⟩ | ⟨q, eq, qm, qall⟩
            · rw [ed] at hy
              cases hy
            · have a := asc q eq
              rcases qall y hy with e | e
              · rw [e] at a
                exact ltT_irr _ a
              · exact ltT_irr _ (ltT_trans a e)
          have klt : kvs.length < sizeLine := small1000 (by omega)
          have tD : t ≠ D := fun e => by
            rw [e, d7.1] at ht
            cases ht
          have WD' : W ≠ D := WD
          refine ⟨_, rfl, t, _, 0, _, rfl, rfl, SqT.of ht, atI_nat (j := 0) rfl, _, rfl, _, rfl, t, _, 1, _, rfl, rfl, SqT.of ht, atI_nat (j := 1) rfl, D, _, rfl, DPut.k (k := .inr y) d7.1 klt, ?_⟩
          have d8 := d7.put (v := M) ny hp (fun _ => by omega)
          have k8 := keys_put_new (v := .ref p) ek ynew
          have S8 : Same H (upd H'' D (.dK (putK kvs (.inr y) (.ref p)))) := fun b o e => by
            rw [upd_ne (fun z => by rw [z, nD0] at e; cases e)]
            exact S7 b o e
          have hW8 : (upd H'' D (.dK (putK kvs (.inr y) (.ref p)))) W = some (.lst (ws.map V.str)) := by
            rw [upd_ne WD']
            exact hW7
          have ht8 : (upd H'' D (.dK (putK kvs (.inr y) (.ref p)))) t = some (.tup [.ref p, .str y, .int ((i + 1 + n' : Nat) : Int)]) := by
            rw [upd_ne tD]
            exact ht
          have pD : p ≠ D := fun e => by
            rw [e, d7.1] at hp
            cases hp
          have hp8 : (upd H'' D (.dK (putK kvs (.inr y) (.ref p)))) p = some (.tup [.int M.1, .int M.2]) := by
            rw [upd_ne pD]
            exact hp
          have kl8 : (putK kvs (.inr y) (.ref p)).length = dn.length + 1 := by
            have y := congrArg List.length k8
            rw [List.length_map, List.length_map, List.length_append, List.length_map, List.length_singleton] at y
            exact y
          generalize putK kvs (.inr y) (.ref p) = kv8 at d8 k8 S8 hW8 ht8 hp8 kl8 ⊢
          generalize upd H'' D (.dK kv8) = H10 at d8 S8 hW8 ht8 hp8 ⊢
          refine' mid (C := _) (Inv := fun σ H'' => ∃ kv9, σ = [some (.str x), some (.ref W), some (.bl (ngB (tl w0))), some (.ref D), some (.int (i : Int)), some (.ref t)] ∧ Same H H'' ∧ H'' W = some (.lst (ws.map V.str)) ∧ H'' t = some (.tup [.ref p, .str y, .int ((i + 1 + n' : Nat) : Int)]) ∧ DM True (dn.length + 1) H'' D kv9 (fun k => if k = .inr y then sgnd sn M else fOf dn k) ∧ kv9.map (·.1) = (dn.map (·.1) ++ [y]).map Sum.inr) (fun key => ?main2) ?cont2
          case main2 =>
            refine ⟨_, rfl, _, rfl, W, _, _, _, rfl, rfl, SqL.of hW8, asn, rfl, _, rfl, ite2 (fun e => ?_) (fun e => ?_)⟩
            · have es : sn = "-" := V.str.inj (of_decide_eq_true e)
              have eN : sgnd sn M = (0 - M.1, M.2) := by
                unfold sgnd
                rw [es, if_neg (by decide), Int.zero_sub]
              refine ⟨_, rfl, t, _, 0, _, rfl, rfl, SqT.of ht8, atI_nat (j := 0) rfl, p, M.1, M.2, rfl, hp8, fun r nr => ?_⟩
              have sr := same_new (o := .tup [.int (0 - M.1), .int M.2]) nr
              have hr9 := upd_same (H := H10) (a := r) (o := .tup [.int (0 - M.1), .int M.2])
              have S9 := S8.trans sr
              have hW9 := sr _ _ hW8
              have ht9 := sr _ _ ht8
              have d9 := d8.same sr
              generalize upd H10 r (.tup [.int (0 - M.1), .int M.2]) = H11 at sr hr9 S9 hW9 ht9 d9 ⊢
              refine ⟨_, rfl, _, rfl, t, _, 1, _, rfl, rfl, SqT.of ht9, atI_nat (j := 1) rfl, D, _, rfl, DPut.k (k := .inr y) d9.1 (small1000 (by omega)), ?_⟩
              have d10 := d9.put (v := (0 - M.1, M.2)) ny hr9 (fun _ => by show 0 - M.1 ≠ 0; omega)
              have k10 := keys_put_old (v := .ref r) k8 (List.mem_append_right _ List.mem_cons_self)
              have kl10 : (putK kv8 (.inr y) (.ref r)).length ≤ dn.length + 1 := by
                have y := congrArg List.length k10
                rw [List.length_map, List.length_map, List.length_append, List.length_map, List.length_singleton] at y
                omega
              refine key _ _ ⟨_, rfl, fun b o e => ?_, ?_, ?_, (d10.cut kl10).fn fun k => ?_, k10⟩
              · rw [upd_ne (fun z => by rw [z, nD0] at e; cases e)]
                exact S9 b o e
              · rw [upd_ne WD']
                exact hW9
              · rw [upd_ne tD]
                exact ht9
              · rw [eN]
                show (if k = Sum.inr y then _ else _) = (if k = Sum.inr y then _ else (if k = Sum.inr y then _ else _))
                by_cases c : k = .inr y
                · rw [if_pos c, if_pos c]
                · rw [if_neg c, if_neg c, if_neg c]
            · have en : sn ≠ "-" := fun z => e (decide_eq_true (congrArg V.str z))
              have es : sn = "+" := by
                unfold isSgB at sg
                rw [decide_eq_false en, Bool.or_false] at sg
                exact of_decide_eq_true sg
              have eN : sgnd sn M = M := if_pos es
              exact key _ _ ⟨_, rfl, S8, hW8, ht8, (d8.cut (by omega)).fn fun k => by rw [eN], k8⟩
          case cont2 =>
            rintro σ H12 ⟨kv9, rfl, S9, hW9, ht9, d9, k9⟩
            obtain ⟨n2, rfl, rn, est⟩ := walkL_step (pr := pr) ert dlen asc
            rw [List.length_drop] at rn
            refine ⟨_, rfl, t, _, 2, _, rfl, rfl, SqT.of ht9, atI_nat (j := 2) rfl, ?_⟩
            refine ⟨i + 1 + n', dn ++ [(y, sgnd sn M)], kv9, n2, some y, _, rfl, S9, hW9, ?_, ?_, .inr ⟨y, rfl, ?_, fun u hu' => ?_⟩, by omega, by omega, rn, ?_, ?_⟩
            · rw [List.length_append, List.length_singleton]
              exact d9.fn fun k => fOf_snoc (p := (y, sgnd sn M)) ynew k
            · rw [k9, List.map_append (f := fun x : Str × (Int × Int) => x.1)]
              rfl
            · rw [List.map_append]
              exact List.mem_append_right _ List.mem_cons_self
            · rw [List.map_append] at hu'
              rcases List.mem_append.mp hu' with e | e
              · rcases hpr with ⟨ed, _⟩ | ⟨q, eq, qm, qall⟩
                · rw [ed] at e
                  cases e
                · refine .inr ?_
                  rcases qall u e with e2 | e2
                  · rw [e2]
                    exact asc q eq
                  · exact ltT_trans e2 (asc q eq)
              · exact .inl (List.mem_singleton.mp e)
            · rw [List.length_append, List.length_singleton]
              omega
            · rw [ewk, est]
              cases walkT true n2 (some y) (ws.drop (i + 1 + n')) with
              | none => rfl
              | some ps =>
                show some (dn ++ ((y, sgnd sn M) :: ps)) = some ((dn ++ [(y, sgnd sn M)]) ++ ps)
                rw [List.append_assoc]
                rfl
end
end SS
namespace SS
open PySem PySem.Spec PyProof.Rows L2 TL NumText
theorem atI_neg {α : Type} {xs : List α} {i : Int} {j k : Nat} (ei : i = -(k : Int)) (hk : 0 < k) (h : j + k = xs.length) : atI xs i = xs[j]? := by
  unfold atI ixN
  rw [ei, if_neg (by omega), if_pos (by omega)]
  show xs[(-(k : Int) + (xs.length : Int)).toNat]? = xs[j]?
  congr 1
  omega
theorem cutV_last2 (A : List V) (u v : V) : cutV (A ++ [u, v]) none (some (-2)) = A := by
  unfold cutV
  have e : HT.sIx (A ++ [u, v]).length (A ++ [u, v]).length (some (-2)) = A.length := by
    dsimp only [HT.sIx]
    rw [if_pos (show (-2 : Int) < 0 by decide), List.length_append]
    show ((-2 : Int) + ((A.length + 2 : Nat) : Int)).toNat = _
    omega
  rw [HT.sIx_none, e, List.drop_zero, Nat.sub_zero, List.take_left]
theorem spl_last (n : Nat) : ∀ (a b c : List Nat), a.length ≤ n → 32 ∉ b → 32 ∉ c → spl [32] 0 [] (a ++ 32 :: (b ++ 32 :: c)) = spl [32] 0 [] a ++ [b, c] := by
  induction n with
  | zero =>
    intro a b c l hb hc
    have ea : a = [] := List.eq_nil_of_length_eq_zero (by omega)
    rw [ea, spl32_cut (by simp), spl32_cut hb, spl32_one hc, spl32_one (by simp)]
    rfl
  | succ n ih =>
    intro a b c l hb hc
    rcases cut32 a with h | ⟨a1, a2, e, h⟩
    · rw [spl32_cut h, spl32_cut hb, spl32_one hc, spl32_one h]
      rfl
    · have l2 : a2.length ≤ n := by
        rw [e, List.length_append, List.length_cons] at l
        omega
      rw [e, List.append_assoc, List.cons_append, spl32_cut h, ih a2 b c l2 hb hc, spl32_cut h]
      rfl
theorem split_tl (x : Str) : (Txt.split x " ").map tl = spl [32] 0 [] (tl x) := by
  rw [split_spl _ _ (by rw [tl_blank]; simp) (kind_ok (by decide +kernel)), tl_blank]
theorem last_two {ws : List Str} {S : List (List Nat)} {b c : List Nat} (h : ws.map tl = S ++ [b, c]) : ∃ A u v, ws = A ++ [u, v] ∧ A.map tl = S ∧ tl u = b ∧ tl v = c := by
  have l := congrArg List.length h
  rw [List.length_map, List.length_append] at l
  have l' : ws.length = S.length + 2 := l
  refine ⟨ws.take S.length, ws[S.length]'(by omega), ws[S.length + 1]'(by omega), ?_, ?_, ?_, ?_⟩
  · have z := List.take_append_drop S.length ws
    rw [List.drop_eq_getElem_cons (by omega : S.length < ws.length), List.drop_eq_getElem_cons (by omega : S.length + 1 < ws.length), List.drop_of_length_le (by omega)] at z
    exact z.symm
  · rw [List.map_take, h, List.take_left]
  · have z : (ws.map tl)[S.length]? = some b := by
      rw [h, List.getElem?_append_right (Nat.le_refl _), Nat.sub_self]
      rfl
    rw [List.getElem?_map, List.getElem?_eq_getElem (by omega)] at z
    exact Option.some.inj z
  · have z : (ws.map tl)[S.length + 1]? = some c := by
      rw [h, List.getElem?_append_right (by omega), show S.length + 1 - S.length = 1 by omega]
      rfl
    rw [List.getElem?_map, List.getElem?_eq_getElem (by omega)] at z
    exact Option.some.inj z
section
variable {P : Program} {w : World} {K : PySem.W.Frag} {mg : Str → Option Value} {base : Heap}
/-! ### _law_read_told -/
def spRdTd (K : PySem.W.Frag) : Sp := fun vs H Q _ => ∃ x : Str, vs = [.str x] ∧ x.length ≤ 890 ∧ (tl x).count 32 ≤ 35 ∧ (outR x = none → ∀ H', Same H H' → Q .non H') ∧ (∀ ps srt num, outR x = some (ps, srt, num) → ∀ H' r a ks, Same H H' → H r = none → RowT K 18 H' r a ks (fOf ps) srt num → Q (.ref r) H')
theorem scRdTd : FnScope ["_law_text", "_law_words", "_law_one", "_law_bound"] ["_law_text"] (defScope sRdTd) := ⟨rfl, rfl, rfl, by decide +kernel, rfl, by decide +kernel, by decide +kernel⟩
set_option maxHeartbeats 4000000 in
theorem ok_rdtd {f : Addr} {fd : FuncData} (F : Fun K "_law_read_told" "_law_read_told" sRdTd f fd) (ml : mg "len" = none) (rw' : Cl P w K mg base CX0 4 "_law_read_words" spRdWs []) (rn : Cl P w K mg base CX0 2 "_law_read_number" spRdN []) : FnOk P w K mg base CX0 5 f fd ["_law_text"] (spRdTd K) := by
  refine F.ok scRdTd (fun vs H Q E h => ?_) (fun cdv A outer s H vs Q E hr h => ?_)
  · obtain ⟨_, rfl, _⟩ := h
    rfl
  · obtain ⟨x, rfl, xl, xc, q0, q1⟩ := h
    refine ⟨_, pss_cons (ps_set (i := 1) scRdTd.nd rfl (.inl rfl) (pe_split (pv 0) pe_str))
      (pss_cons (ps_if (PW.pt (pw_or (pt_cmpR op_lt (pe_callB call_len_seq (by rfl) ml PySem.boot_len (pa_cons (pv 1) pa_nil)) pe_int (nomark _)) (pw_or1 (pt_cmpR op_notIn_seq (pe_ix ix_list (pv 1) (pe_un un_neg pe_int) (fun _ _ => rfl)) (pe_tup (pa_cons pe_str (pa_cons pe_str (pa_cons pe_str (pa_cons pe_str (pa_cons pe_str pa_nil)))))) rfl)))) (pss_one (ps_ret pe_non)) pss_nil)
      (pss_cons (ps_set (i := 2) scRdTd.nd rfl (.inl rfl) (pc0 rw' hr (by decide) (pa_cons (pe_m1 PySem.F.slot_str_join PySem.F.type_str_join mt_join pe_str (pe_slice sl_list (pv 1) po_none (po_some (pe_un un_neg pe_int)))) pa_nil)))
      (pss_cons (ps_set (i := 3) scRdTd.nd rfl (.inl rfl) (pc0 rn hr (by decide) (pa_cons (pe_ix ix_list (pv 1) (pe_un un_neg pe_int) (fun _ _ => rfl)) pa_nil)))
      (pss_cons (ps_if (PW.pt (pw_or (pt_cmpR op_isN (pv 2) pe_non (nomark _)) (pw_or1 (pt_cmpR op_isN (pv 3) pe_non (nomark _))))) (pss_one (ps_ret pe_non)) pss_nil)
      (pss_one (ps_ret (pe_tup (pa_cons (pv 2) (pa_cons (pe_ix ix_list (pv 1) (pe_un un_neg pe_int) (fun _ _ => rfl)) (pa_cons (pv 3) pa_nil)))))))))), ?_⟩
    have xs : x.length ≤ sizeLine := sz5 (by omega)
    have e1 : ((" " : Str)).length = 1 := by decide
    refine ⟨_, rfl, ⟨_, rfl⟩, x, " ", rfl, rfl, by decide, sz5 (by omega), fun l nl => ?_⟩
    have es := split_tl x
    have jl := (join_spl _ (tl x) (Nat.le_refl _)).2
    rw [← es] at jl
    rw [List.length_map] at jl
    generalize Txt.split x " " = ws at es jl ⊢
    have s1 := same_new (o := .lst (ws.map V.str)) nl
    have hl := upd_same (H := H) (a := l) (o := .lst (ws.map V.str))
    generalize upd H l (.lst (ws.map V.str)) = H1 at s1 hl ⊢
    have el : ((ws.map V.str).length : Int) = (ws.length : Int) := by rw [List.length_map]
    have wz : ∀ z ∈ ws, z.length ≤ 890 := fun z hz => by
      have k := (jl.1 (tl z) (List.mem_map.mpr ⟨z, hz, rfl⟩)).2
      rw [len_tl]
      rw [len_tl] at xl
      omega
    rcases cut2 (tl x) with few | ⟨a, b, c, ex, hb, hc⟩
    · refine ⟨_, rfl, l, _, rfl, .inl (SqL.of hl), (ws.length : Int), 3, congrArg V.int el, rfl, _, rfl, ite2 (fun _ => q0 (outR_few few).1 _ s1) (fun z => absurd (decide_eq_true ?_) z)⟩
      have j2 := jl.2
      show (ws.length : Int) < 3
      omega
    · obtain ⟨w0, w1, w2, _, e0, e1', e2, eo⟩ := outR_cut ex hb hc
      rw [ex, spl_last _ a b c (Nat.le_refl _) hb hc] at es
      obtain ⟨Wa, u, v, ew, eA, eu, ev⟩ := last_two es
      obtain rfl : u = w1 := ext_tl (eu.trans e1'.symm)
      obtain rfl : v = w2 := ext_tl (ev.trans e2.symm)
      have An : Wa ≠ [] := fun z => by
        rw [z] at eA
        exact spl32_ne a eA.symm
      have Al : 1 ≤ Wa.length := List.length_pos_iff.mpr An
      have wl : ws.length = Wa.length + 2 := by rw [ew, List.length_append]; rfl
      have ewv : ws.map V.str = Wa.map V.str ++ [.str u, .str v] := by rw [ew, List.map_append]; rfl
      have um : u.length ≤ 890 := wz u (by rw [ew]; exact List.mem_append_right _ List.mem_cons_self)
      have vm : v.length ≤ 890 := wz v (by rw [ew]; exact List.mem_append_right _ (List.mem_cons_of_mem _ List.mem_cons_self))
      have aU : atI (ws.map V.str) (-2) = some (.str u) := by
        rw [atI_neg (i := -2) (j := Wa.length) (k := 2) rfl (by decide) (by rw [List.length_map]; omega), ewv, List.getElem?_append_right (by rw [List.length_map]; omega), List.length_map, Nat.sub_self]
        rfl
      have aV : atI (ws.map V.str) (-1) = some (.str v) := by
        rw [atI_neg (i := -1) (j := Wa.length + 1) (k := 1) rfl (by decide) (by rw [List.length_map]; omega), ewv, List.getElem?_append_right (by rw [List.length_map]; omega), List.length_map, show Wa.length + 1 - Wa.length = 1 by omega]
        rfl
      refine ⟨_, rfl, l, _, rfl, .inl (SqL.of hl), (ws.length : Int), 3, congrArg V.int el, rfl, _, rfl, ite2 (fun z => ?_) (fun _ => ?_)⟩
      · have z' : (ws.length : Int) < 3 := of_decide_eq_true z
        omega
      refine ⟨_, rfl, 2, rfl, l, _, -2, _, rfl, rfl, SqL.of hl, aU, by show 5 ≤ sizeLine; decide, fun U nU => ?_⟩
      have sU := same_new (o := .tup (sorts.map V.str)) nU
      have hU := upd_same (H := H1) (a := U) (o := .tup (sorts.map V.str))
      have S2 := s1.trans sU
      have hl2 := sU _ _ hl
      have eS : [V.str "is", V.str "most", V.str "least", V.str "below", V.str "above"] = sorts.map V.str := rfl
      rw [eS]
      generalize upd H1 U (.tup (sorts.map V.str)) = H2 at sU hU S2 hl2 ⊢
      refine ⟨U, _, rfl, .inr (SqT.of hU), rfl, rfl, ?_⟩
      rw [str_inV]
      by_cases hs : u ∈ sorts
      rotate_left
      · rw [decide_eq_false hs]
        exact ⟨_, rfl, iteT (q0 (by rw [eo]; exact if_neg hs) _ S2)⟩
      rw [decide_eq_true hs]
      refine ⟨_, rfl, iteF ?_⟩
      have eo' : outR x = match outS w0, rd (tl v) with | some ps, some N => some (ps, u, N) | _, _ => none := by
        rw [eo]
        exact if_pos hs
      refine ⟨⟨_, rfl⟩, _, rfl, 2, rfl, -2, rfl, l, _, rfl, SqL.of hl2, fun L nL => ?_⟩
      rw [ewv, cutV_last2]
      have s3 := same_new (o := .lst (Wa.map V.str)) nL
      have hL := upd_same (H := H2) (a := L) (o := .lst (Wa.map V.str))
      have S3 := S2.trans s3
      have hl3 := s3 _ _ hl2
      generalize upd H2 L (.lst (Wa.map V.str)) = H3 at s3 hL S3 hl3 ⊢
      have ej : Txt.join " " Wa = w0 := ext_tl (by rw [join_eq, tl_join, tl_blank, eA, (join_spl _ a (Nat.le_refl _)).1, e0])
      have lens : w0.length ≤ 890 ∧ (tl w0).count 32 ≤ 35 := by
        have z := congrArg List.length ex
        rw [← len_tl, List.length_append, List.length_cons, List.length_append, List.length_cons] at z
        have z2 : (tl w0).count 32 ≤ (tl x).count 32 := by
          rw [e0, ex, List.count_append]
          omega
        rw [len_tl, e0]
        rw [e0] at z2
        exact ⟨by omega, by omega⟩
      refine ⟨_, L, Wa, rfl, rfl, .inl (SqL.of hL), ?_, ?_⟩
      · have z := sum_le (fun t : Str => t.length) 890 Wa fun t ht => wz t (by rw [ew]; exact List.mem_append_left _ ht)
        have j2 := jl.2
        rw [e1]
        omega
      rw [ej]
      refine ⟨w0, rfl, lens.1, lens.2, fun en H4 s4 => ?_, fun ps en H4 c4 ks4 s4 nc4 d4 => ?_⟩
      · have hl4 := s4 _ _ hl3
        have S4 := S3.trans s4
        refine ⟨_, rfl, 1, rfl, l, _, -1, _, rfl, rfl, SqL.of hl4, aV, v, rfl, by omega, fun er H5 s5 => ?_, fun N er H5 p s5 np hp => ?_⟩
        · exact ⟨_, rfl, rfl, _, rfl, ite2 (fun _ => q0 (by rw [eo', en]) _ (S4.trans s5)) (fun z => absurd (decide_eq_true rfl) z)⟩
        · exact ⟨_, rfl, rfl, _, rfl, ite2 (fun _ => q0 (by rw [eo', en]) _ (S4.trans s5)) (fun z => absurd (decide_eq_true rfl) z)⟩
      · have hl4 := s4 _ _ hl3
        have S4 := S3.trans s4
        refine ⟨_, rfl, 1, rfl, l, _, -1, _, rfl, rfl, SqL.of hl4, aV, v, rfl, by omega, fun er H5 s5 => ?_, fun N er H5 p s5 np hp => ?_⟩
        · refine ⟨_, rfl, rfl, _, rfl, ite2 (fun z => by cases of_decide_eq_true z) (fun _ => ?_)⟩
          exact ⟨_, rfl, rfl, _, rfl, ite2 (fun _ => q0 (by rw [eo', en, er]) _ (S4.trans s5)) (fun z => absurd (decide_eq_true rfl) z)⟩
        · refine ⟨_, rfl, rfl, _, rfl, ite2 (fun z => by cases of_decide_eq_true z) (fun _ => ?_)⟩
          refine ⟨_, rfl, rfl, _, rfl, ite2 (fun z => by cases of_decide_eq_true z) (fun _ => ?_)⟩
          have S5 := S4.trans s5
          have hl5 := s5 _ _ hl4
          refine ⟨_, rfl, _, rfl, 2, rfl, l, _, -2, _, rfl, rfl, SqL.of hl5, aU, _, rfl, by show 3 ≤ sizeLine; decide, fun R nR => ?_⟩
          have sR := same_new (o := .tup [.ref c4, .str u, .ref p]) nR
          exact q1 _ _ _ (by rw [eo', en, er]) _ R c4 ks4 (S5.trans sR) (S5.free nR) ⟨p, upd_same, (d4.same s5).same sR, FrT.of (sR _ _ hp), hs⟩
end
end SS
namespace SS
open PySem PySem.Spec PyProof.Rows L2 TL NumText
theorem itx40 {n : Int} (h0 : 0 ≤ n) (h : n < 10 ^ 40) : (((toString n : String)) : Str).length ≤ 40 := by
  rw [len_tl, tl_int]
  unfold zL
  rw [if_neg (by omega)]
  exact numL_len (by decide) (by omega)
theorem log40 {n : Int} (h0 : 0 ≤ n) (h : n < 10 ^ 40) : n.natAbs.log2 < 1920 := log_of (Nat.lt_trans (show n.natAbs < 10 ^ 40 by omega) (by decide))
theorem pickB (l : List Int) (B d : Int) (h0 : 0 ≤ d) (h1 : d < (l.length : Int)) (hx : ∀ x ∈ l, 0 < x ∧ x ≤ B) : ∃ x : Int, atI (l.map V.int) d = some (.int x) ∧ 0 < x ∧ x ≤ B := by
  have hn : d.toNat < l.length := by omega
  refine ⟨l[d.toNat], ?_, hx _ (List.getElem_mem hn)⟩
  refine at_of (j := d.toNat) (by omega) ?_
  rw [List.getElem?_map, List.getElem?_eq_getElem hn]
  rfl
theorem at_chr (z : Str) (d : Int) (h0 : 0 ≤ d) (h1 : d < (z.length : Int)) : ∃ c, atI z.cps.toList d = some c := by
  obtain ⟨n, rfl⟩ : ∃ n : Nat, d = (n : Int) := ⟨d.toNat, by omega⟩
  have hn : n < z.cps.toList.length := by
    rw [Array.length_toList]
    have : z.length = z.cps.size := rfl
    omega
  exact ⟨_, atI_nat (List.getElem?_eq_getElem hn)⟩
theorem tl_cutt (x : Str) (d : Nat) : tl (cutS x none (some (d : Int))) = (tl x).take d := by
  show ((tl x).drop 0).take (HT.sIx x.length x.length (some (d : Int)) - 0) = _
  rw [HT.sIx_nat, List.drop_zero, Nat.sub_zero, len_tl]
  by_cases c : d ≤ (tl x).length
  · rw [Nat.min_eq_left c]
  · rw [Nat.min_eq_right (by omega), List.take_of_length_le (Nat.le_refl _), List.take_of_length_le (by omega)]
theorem cut_meas (x : Str) (d e : Nat) (h : d ≤ e) : (cutS x none (some (d : Int))).length + (cutS x (some (e : Int)) none).length ≤ x.length ∧ (tl (cutS x none (some (d : Int)))).count 32 + (tl (cutS x (some (e : Int)) none)).count 32 ≤ (tl x).count 32 := by
  rw [len_tl, len_tl, len_tl, tl_cutt, tl_cutd]
  have s : ((tl x).take d ++ (tl x).drop e).Sublist (tl x) := by
    have z := List.take_append_drop d (tl x)
    have y : ((tl x).drop e).Sublist ((tl x).drop d) := by
      obtain ⟨k, rfl⟩ : ∃ k, e = d + k := ⟨e - d, by omega⟩
      rw [← List.drop_drop]
      exact List.drop_sublist _ _
    have u := (List.Sublist.refl ((tl x).take d)).append y
    rw [z] at u
    exact u
  have l := s.length_le
  have c := s.count_le 32
  rw [List.length_append] at l
  rw [List.count_append] at c
  exact ⟨l, c⟩
section
variable {P : Program} {w : World} {K : PySem.W.Frag} {mg : Str → Option Value} {base : Heap}
def spSign : Sp := fun vs H Q _ => ∃ st c : Addr, vs = [.ref st] ∧ StA st c H ∧ ∀ H' (x : Str), But st H H' → StA st c H' → x.length ≤ 1 → Q (.str x) H'
theorem scSign : FnScope ["_law_state", "_law_most", "_law_near"] ["_law_state"] (defScope sSign) := ⟨rfl, rfl, rfl, by decide +kernel, rfl, by decide +kernel, by decide +kernel⟩
theorem ok_sign {f : Addr} {fd : FuncData} (F : Fun K "_law_sign" "_law_sign" sSign f fd) (ml : mg "len" = none) (tk : Cl P w K mg base CX0 3 "_law_take" spTake []) : FnOk P w K mg base CX0 4 f fd ["_law_state"] spSign := by
  refine F.ok scSign (fun vs H Q E h => ?_) (fun cdv A outer s H vs Q E hr h => ?_)
  · obtain ⟨_, _, rfl, _⟩ := h
    rfl
  · obtain ⟨st, c, rfl, s0, q⟩ := h
    refine ⟨_, pss_cons (ps_set (i := 1) scSign.nd rfl (.inl rfl) pe_str)
      (pss_cons (ps_set (i := 2) scSign.nd rfl (.inl rfl) pe_str)
      (pss_cons (ps_if (pt_cmpR op_gt (pc0 tk hr (by decide) (pa_cons (pv 0) (pa_cons pe_int pa_nil))) pe_int (nomark _))
        (pss_one (ps_ret (pe_ix ix_str (pv 2) (pc0 tk hr (by decide) (pa_cons (pv 0) (pa_cons (pe_callB call_len (by rfl) ml PySem.boot_len (pa_cons (pv 2) pa_nil)) pa_nil))) (fun _ _ => rfl)))) pss_nil)
      (pss_one (ps_ret (pe_ix ix_str (pv 1) (pc0 tk hr (by decide) (pa_cons (pv 0) (pa_cons (pe_callB call_len (by rfl) ml PySem.boot_len (pa_cons (pv 1) pa_nil)) pa_nil))) (fun _ _ => rfl)))))), ?_⟩
    refine ⟨_, rfl, st, c, 3, rfl, by decide, lt8 (by decide), s0, fun H1 d1 b1 s1 l1 u1 => ⟨_, _, rfl, rfl, _, rfl, ite2 (fun e => ?_) (fun e => ?_)⟩⟩
    · refine ⟨_, rfl, _, rfl, _, rfl, _, _, rfl, ⟨sz5 (by decide), rfl⟩, st, c, _, rfl, by decide, lt8 (by decide), s1, fun H2 d2 b2 s2 l2 u2 => ?_⟩
      obtain ⟨ch, hc⟩ := at_chr _ d2 l2 u2
      exact ⟨_, _, ch, rfl, rfl, sz5 (by decide), hc, q _ _ (b1.trans b2) s2 (Nat.le_refl 1)⟩
    · refine ⟨_, rfl, _, rfl, _, rfl, _, _, rfl, ⟨sz5 (by decide), rfl⟩, st, c, _, rfl, by decide, lt8 (by decide), s1, fun H2 d2 b2 s2 l2 u2 => ?_⟩
      obtain ⟨ch, hc⟩ := at_chr _ d2 l2 u2
      exact ⟨_, _, ch, rfl, rfl, sz5 (by decide), hc, q _ _ (b1.trans b2) s2 (Nat.le_refl 1)⟩
def spSpoilt : Sp := fun vs H Q _ => ∃ (st c : Addr) (x : Str), vs = [.ref st, .str x] ∧ x.length ≤ 900 ∧ StA st c H ∧ ∀ H' (y : Str), But st H H' → StA st c H' → y.length ≤ x.length + 1 → (tl y).count 32 ≤ (tl x).count 32 + 1 → Q (.str y) H'
theorem scSpoilt : FnScope ["_law_state", "_law_text", "_law_at", "_law_way", "_law_sign_here"] ["_law_state", "_law_text"] (defScope sSpoilt) := ⟨rfl, rfl, rfl, by decide +kernel, rfl, by decide +kernel, by decide +kernel⟩
theorem ok_spoilt {f : Addr} {fd : FuncData} (F : Fun K "_law_spoilt" "_law_spoilt" sSpoilt f fd) (ml : mg "len" = none) (tk : Cl P w K mg base CX0 3 "_law_take" spTake []) (sg' : Cl P w K mg base CX0 4 "_law_sign" spSign []) : FnOk P w K mg base CX0 5 f fd ["_law_state", "_law_text"] spSpoilt := by
  refine F.ok scSpoilt (fun vs H Q E h => ?_) (fun cdv A outer s H vs Q E hr h => ?_)
  · obtain ⟨_, _, _, rfl, _⟩ := h
    rfl
  · obtain ⟨st, c, x, rfl, hx, s0, q⟩ := h
    have xs : x.length ≤ sizeLine := sz5 (by omega)
    refine ⟨_, pss_cons (ps_set (i := 2) scSpoilt.nd rfl (.inl rfl) (pc0 tk hr (by decide) (pa_cons (pv 0) (pa_cons (pe_op op_add (pe_callB call_len (by rfl) ml PySem.boot_len (pa_cons (pv 1) pa_nil)) pe_int) pa_nil))))
      (pss_cons (ps_set (i := 3) scSpoilt.nd rfl (.inl rfl) (pc0 tk hr (by decide) (pa_cons (pv 0) (pa_cons pe_int pa_nil))))
      (pss_cons (ps_set (i := 4) scSpoilt.nd rfl (.inl rfl) (pc0 sg' hr (by decide) (pa_cons (pv 0) pa_nil)))
      (pss_cons (ps_if (pt_cmpR op_eq (pv 3) pe_int (nomark _)) (pss_one (ps_ret (pe_op op_add_str (pe_op op_add_str (pe_slice sl_str (pv 1) po_none (po_some (pv 2))) (pv 4)) (pe_slice sl_str (pv 1) (po_some (pv 2)) po_none)))) pss_nil)
      (pss_cons (ps_if (pt_cmpR op_eq (pv 3) pe_int (nomark _)) (pss_one (ps_ret (pe_op op_add_str (pe_op op_add_str (pe_slice sl_str (pv 1) po_none (po_some (pv 2))) (pv 4)) (pe_slice sl_str (pv 1) (po_some (pe_op op_add (pv 2) pe_int)) po_none)))) pss_nil)
      (pss_one (ps_ret (pe_op op_add_str (pe_slice sl_str (pv 1) po_none (po_some (pv 2))) (pe_slice sl_str (pv 1) (po_some (pe_op op_add (pv 2) pe_int)) po_none)))))))), ?_⟩
    refine ⟨_, rfl, _, rfl, _, x.length, rfl, ⟨xs, rfl⟩, (x.length : Int), 1, rfl, rfl, st, c, (x.length : Int) + 1, rfl, by omega, lt8 (by omega), s0, fun H1 d1 b1 s1 l1 u1 => ?_⟩
    refine ⟨_, rfl, st, c, 3, rfl, by decide, lt8 (by decide), s1, fun H2 d2 b2 s2 l2 u2 => ?_⟩
    refine ⟨_, rfl, st, c, rfl, s2, fun H3 z b3 s3 zl => ?_⟩
    have B := (b1.trans b2).trans b3
    have cl := cutS_length x none (some d1)
    have cr := cutS_length x (some d1) none
    have cm := cutS_length x (some (d1 + 1)) none
    obtain ⟨d, rfl⟩ : ∃ d : Nat, d1 = (d : Int) := ⟨d1.toNat, by omega⟩
    have m0 := cut_meas x d d (Nat.le_refl _)
    have m1 := cut_meas x d (d + 1) (Nat.le_succ _)
    rw [show ((d + 1 : Nat) : Int) = (d : Int) + 1 from rfl] at m1
    have zc : (tl z).count 32 ≤ 1 := Nat.le_trans List.count_le_length (by rw [← len_tl]; exact zl)
    refine ⟨_, rfl, rfl, _, rfl, ite2 (fun e => ?_) (fun e => ?_)⟩
    · refine ⟨_, rfl, _, rfl, (d : Int), rfl, x, rfl, xs, _, rfl, _, z, rfl, rfl, sz5 (by omega), _, rfl, _, rfl, (d : Int), rfl, x, rfl, xs, _, _, rfl, rfl, ?_, q _ _ B s3 ?_ ?_⟩
      · rw [len_app]
        exact sz5 (by omega)
      · rw [len_app, len_app]
        omega
      · rw [tl_append, tl_append, List.count_append, List.count_append]
        omega
    · refine ⟨_, rfl, rfl, _, rfl, ite2 (fun e2 => ?_) (fun e2 => ?_)⟩
      · refine ⟨_, rfl, _, rfl, (d : Int), rfl, x, rfl, xs, _, rfl, _, z, rfl, rfl, sz5 (by omega), _, rfl, _, rfl, (d : Int), 1, rfl, rfl, (d : Int) + 1, rfl, x, rfl, xs, _, _, rfl, rfl, ?_, q _ _ B s3 ?_ ?_⟩
        · rw [len_app]
          exact sz5 (by omega)
        · rw [len_app, len_app]
          omega
        · rw [tl_append, tl_append, List.count_append, List.count_append]
          omega
      · refine ⟨_, rfl, _, rfl, (d : Int), rfl, x, rfl, xs, _, rfl, _, rfl, (d : Int), 1, rfl, rfl, (d : Int) + 1, rfl, x, rfl, xs, _, _, rfl, rfl, sz5 (by omega), q _ _ B s3 ?_ ?_⟩
        · rw [len_app]
          omega
        · rw [tl_append, List.count_append]
          omega
end
end SS
namespace SS
open PySem PySem.Spec PyProof.Rows L2
/-! ### the sixteen classes: the fifteen refusals, then StoreError -/
abbrev nms : List Str := ["NoFraction", "NoRow", "NoName", "Stands", "Full", "NoLevel", "NoMark", "NothingDone", "NoPoint", "NoStep", "NoNumber", "NoNames", "NoText", "NoLine", "NoWord", "StoreError"]
structure C16 (K : PySem.W.Frag) (mg : Str → Option Value) (Cs : Nat → Addr) : Prop where
  ext : ∀ i, i < 16 → ExT K mg (nms.getD i "") (Cs i)
  exc : ∀ i, i < 16 → ExcC K (Cs i)
  kit : ∀ i j, i < 16 → j < 15 → PySem.W.kitOne K (.ref (Cs i)) (.ref (Cs j)) = some (decide (i = j))
  kve : ∀ i, i < 16 → PySem.W.kitOne K (.ref (Cs i)) (.type "ValueError") = some true
  exm : ∀ i, i < 16 → PySem.W.exmOne K (.ref (Cs i)) (.ref (Cs 15)) = some true
theorem pe_when {X : Cx} {p : Prop} {e : Expr} {t : TE} (h : p → PE X e t) : PE X e (fun σ H Q => p ∧ t σ H Q) := ⟨fun pins s σ H Q I z => (h z.1).run pins s σ H Q I z.2⟩
end SS
namespace SS
open PySem PySem.Spec PyProof.Rows L2
def kbs (j : Nat) : List Bool := [decide (j = 0), decide (j = 1), decide (j = 2), decide (j = 3), decide (j = 4), decide (j = 5), decide (j = 6), decide (j = 7), decide (j = 8), decide (j = 9), decide (j = 10), decide (j = 11), decide (j = 12), decide (j = 13), decide (j = 14)]
theorem k15 {j : Nat} (h : j < 15) : j = 0 ∨ j = 1 ∨ j = 2 ∨ j = 3 ∨ j = 4 ∨ j = 5 ∨ j = 6 ∨ j = 7 ∨ j = 8 ∨ j = 9 ∨ j = 10 ∨ j = 11 ∨ j = 12 ∨ j = 13 ∨ j = 14 := by omega
theorem kbs_count {j : Nat} (h : j < 15) : (kbs j).count true = 1 := by
  rcases k15 h with rfl | rfl | rfl | rfl | rfl | rfl | rfl | rfl | rfl | rfl | rfl | rfl | rfl | rfl | rfl <;> decide
theorem kbs_get {j : Nat} (h : j < 15) : ((kbs j).map V.bl)[j]? = some (.bl true) := by
  rcases k15 h with rfl | rfl | rfl | rfl | rfl | rfl | rfl | rfl | rfl | rfl | rfl | rfl | rfl | rfl | rfl <;> rfl
theorem kbs_no {j : Nat} (h : j < 15) (m : Nat) (z : V) (hm : m < j) (e : ((kbs j).map V.bl)[m]? = some z) : eqV z (.bl true) = false := by
  have ml : m < 15 := by omega
  have e2 : ((kbs j).map V.bl)[m]? = some (.bl (decide (j = m))) := by
    rcases k15 ml with rfl | rfl | rfl | rfl | rfl | rfl | rfl | rfl | rfl | rfl | rfl | rfl | rfl | rfl | rfl <;> rfl
  rw [e2] at e
  rw [← Option.some.inj e, decide_eq_false (by omega)]
  rfl
theorem kbs_flat (j : Nat) : ((kbs j).map V.bl).all flatV = true := rfl
theorem nms_get {j : Nat} (h : j < 15) : atI ([.str "NoFraction", .str "NoRow", .str "NoName", .str "Stands", .str "Full", .str "NoLevel", .str "NoMark", .str "NothingDone", .str "NoPoint", .str "NoStep", .str "NoNumber", .str "NoNames", .str "NoText", .str "NoLine", .str "NoWord"] : List V) (j : Int) = some (.str (nms.getD j "")) := by
  rcases k15 h with rfl | rfl | rfl | rfl | rfl | rfl | rfl | rfl | rfl | rfl | rfl | rfl | rfl | rfl | rfl <;> rfl
section
variable {P : Program} {w : World} {K : PySem.W.Frag} {mg : Str → Option Value} {base : Heap} {Cs : Nat → Addr}
def spKind (a : Addr) (j : Nat) : Sp := fun vs H Q _ => vs = [.ref a] ∧ ∀ H', Same H H' → Q (.str (nms.getD j "")) H'
theorem scKind : FnScope ["_law_e", "_law_kinds", "_law_words"] ["_law_e"] (defScope sKind) := ⟨rfl, rfl, rfl, by decide +kernel, rfl, by decide +kernel, by decide +kernel⟩
set_option maxHeartbeats 4000000 in
theorem ok_kind {f a : Addr} {oe : Obj} {fd : FuncData} {k j : Nat} (F : Fun K "_law_kind" "_law_kind" sKind f fd) (T : C16 K mg Cs) (mi : mg "isinstance" = none) (mv : mg "ValueError" = none) (h15 : j < 15) (hz : Zc (.ref (Cs j)) none oe) (hf : ∃ vs, oe.data = .fields vs) :
    FnP P w K mg base (k + 1) f fd ["_law_e"] (spKind a j) (a, oe) := by
  have hj : j < 16 := by omega
  refine Fun.okP F scKind (a, oe) (fun vs H Q E h => ?_) (fun cdv A outer s H vs Q E hr h => ?_)
  · obtain ⟨rfl, _⟩ := h
    rfl
  · obtain ⟨rfl, q⟩ := h
    refine ⟨_, pss_cons (ps_set (i := 1) scKind.nd rfl (.inl rfl) (pe_lst (pa_cons (pe_callB (call_isP (D := Cs j) (T.exc j hj) hz hf List.mem_cons_self) (by rfl) mi boot_isinstance (pa_cons (pv 0) (pa_cons (pe_glob (v := .ref (Cs 0)) (by rfl) (T.ext 0 (by decide)).gC rfl) pa_nil))) (pa_cons (pe_callB (call_isP (D := Cs j) (T.exc j hj) hz hf List.mem_cons_self) (by rfl) mi boot_isinstance (pa_cons (pv 0) (pa_cons (pe_glob (v := .ref (Cs 1)) (by rfl) (T.ext 1 (by decide)).gC rfl) pa_nil))) (pa_cons (pe_callB (call_isP (D := Cs j) (T.exc j hj) hz hf List.mem_cons_self) (by rfl) mi boot_isinstance (pa_cons (pv 0) (pa_cons (pe_glob (v := .ref (Cs 2)) (by rfl) (T.ext 2 (by decide)).gC rfl) pa_nil))) (pa_cons (pe_callB (call_isP (D := Cs j) (T.exc j hj) hz hf List.mem_cons_self) (by rfl) mi boot_isinstance (pa_cons (pv 0) (pa_cons (pe_glob (v := .ref (Cs 3)) (by rfl) (T.ext 3 (by decide)).gC rfl) pa_nil))) pa_nil))))))
      (pss_cons (ps_set (i := 1) scKind.nd rfl (.inl rfl) (pe_op op_cat (pv 1) (pe_lst (pa_cons (pe_callB (call_isP (D := Cs j) (T.exc j hj) hz hf List.mem_cons_self) (by rfl) mi boot_isinstance (pa_cons (pv 0) (pa_cons (pe_glob (v := .ref (Cs 4)) (by rfl) (T.ext 4 (by decide)).gC rfl) pa_nil))) (pa_cons (pe_callB (call_isP (D := Cs j) (T.exc j hj) hz hf List.mem_cons_self) (by rfl) mi boot_isinstance (pa_cons (pv 0) (pa_cons (pe_glob (v := .ref (Cs 5)) (by rfl) (T.ext 5 (by decide)).gC rfl) pa_nil))) (pa_cons (pe_callB (call_isP (D := Cs j) (T.exc j hj) hz hf List.mem_cons_self) (by rfl) mi boot_isinstance (pa_cons (pv 0) (pa_cons (pe_glob (v := .ref (Cs 6)) (by rfl) (T.ext 6 (by decide)).gC rfl) pa_nil))) (pa_cons (pe_callB (call_isP (D := Cs j) (T.exc j hj) hz hf List.mem_cons_self) (by rfl) mi boot_isinstance (pa_cons (pv 0) (pa_cons (pe_glob (v := .ref (Cs 7)) (by rfl) (T.ext 7 (by decide)).gC rfl) pa_nil))) pa_nil)))))))
      (pss_cons (ps_set (i := 1) scKind.nd rfl (.inl rfl) (pe_op op_cat (pv 1) (pe_lst (pa_cons (pe_callB (call_isP (D := Cs j) (T.exc j hj) hz hf List.mem_cons_self) (by rfl) mi boot_isinstance (pa_cons (pv 0) (pa_cons (pe_glob (v := .ref (Cs 8)) (by rfl) (T.ext 8 (by decide)).gC rfl) pa_nil))) (pa_cons (pe_callB (call_isP (D := Cs j) (T.exc j hj) hz hf List.mem_cons_self) (by rfl) mi boot_isinstance (pa_cons (pv 0) (pa_cons (pe_glob (v := .ref (Cs 9)) (by rfl) (T.ext 9 (by decide)).gC rfl) pa_nil))) (pa_cons (pe_callB (call_isP (D := Cs j) (T.exc j hj) hz hf List.mem_cons_self) (by rfl) mi boot_isinstance (pa_cons (pv 0) (pa_cons (pe_glob (v := .ref (Cs 10)) (by rfl) (T.ext 10 (by decide)).gC rfl) pa_nil))) (pa_cons (pe_callB (call_isP (D := Cs j) (T.exc j hj) hz hf List.mem_cons_self) (by rfl) mi boot_isinstance (pa_cons (pv 0) (pa_cons (pe_glob (v := .ref (Cs 11)) (by rfl) (T.ext 11 (by decide)).gC rfl) pa_nil))) pa_nil)))))))
      (pss_cons (ps_set (i := 1) scKind.nd rfl (.inl rfl) (pe_op op_cat (pv 1) (pe_lst (pa_cons (pe_callB (call_isP (D := Cs j) (T.exc j hj) hz hf List.mem_cons_self) (by rfl) mi boot_isinstance (pa_cons (pv 0) (pa_cons (pe_glob (v := .ref (Cs 12)) (by rfl) (T.ext 12 (by decide)).gC rfl) pa_nil))) (pa_cons (pe_callB (call_isP (D := Cs j) (T.exc j hj) hz hf List.mem_cons_self) (by rfl) mi boot_isinstance (pa_cons (pv 0) (pa_cons (pe_glob (v := .ref (Cs 13)) (by rfl) (T.ext 13 (by decide)).gC rfl) pa_nil))) (pa_cons (pe_callB (call_isP (D := Cs j) (T.exc j hj) hz hf List.mem_cons_self) (by rfl) mi boot_isinstance (pa_cons (pv 0) (pa_cons (pe_glob (v := .ref (Cs 14)) (by rfl) (T.ext 14 (by decide)).gC rfl) pa_nil))) pa_nil))))))
      (pss_cons (ps_if (PW.pt (pw_or (pt_cmpR op_ne (pe_bm PySem.F.plainAttrs_list PySem.F.slot_list_count PySem.F.type_list_count mt_countT (pv 1) (pa_cons pe_bl pa_nil)) pe_int (nomark _))
        (pw_or1 (pt_not (pt_val (pe_callB (call_isP (D := Cs j) (T.exc j hj) hz hf List.mem_cons_self) (by rfl) mi boot_isinstance (pa_cons (pv 0) (pa_cons (pe_bltn (v := .ty "ValueError") (u := .type "ValueError") (by rfl) mv (by decide +kernel) rfl) pa_nil)))))))) (pss_one (ps_ret pe_str)) pss_nil)
      (pss_cons (ps_set (i := 2) scKind.nd rfl (.inl rfl) (pe_lst (pa_cons pe_str (pa_cons pe_str (pa_cons pe_str (pa_cons pe_str (pa_cons pe_str (pa_cons pe_str (pa_cons pe_str (pa_cons pe_str (pa_cons pe_str pa_nil)))))))))))
      (pss_one (ps_ret (pe_ix ix_list (pe_op op_cat (pv 2) (pe_lst (pa_cons pe_str (pa_cons pe_str (pa_cons pe_str (pa_cons pe_str (pa_cons pe_str (pa_cons pe_str pa_nil)))))))) (pe_bm PySem.F.plainAttrs_list PySem.F.slot_list_index PySem.F.type_list_index mt_index (pv 1) (pa_cons pe_bl pa_nil)) (fun _ _ => rfl))))))))), ?_⟩
    refine ⟨_, rfl, _, _, decide (j = 0), rfl, (fun _ r => r), T.kit j 0 hj (by decide), _, rfl, _, _, decide (j = 1), rfl, (fun _ r => r), T.kit j 1 hj (by decide), _, rfl, _, _, decide (j = 2), rfl, (fun _ r => r), T.kit j 2 hj (by decide), _, rfl, _, _, decide (j = 3), rfl, (fun _ r => r), T.kit j 3 hj (by decide), (by show 4 ≤ sizeLine; decide), fun L1 n1 => ?_⟩
    have s1 := same_new (o := .lst [.bl (decide (j = 0)), .bl (decide (j = 1)), .bl (decide (j = 2)), .bl (decide (j = 3))]) n1
    refine ⟨_, rfl, _, rfl, _, _, decide (j = 4), rfl, (fun _ r => r), T.kit j 4 hj (by decide), _, rfl, _, _, decide (j = 5), rfl, (fun _ r => r), T.kit j 5 hj (by decide), _, rfl, _, _, decide (j = 6), rfl, (fun _ r => r), T.kit j 6 hj (by decide), _, rfl, _, _, decide (j = 7), rfl, (fun _ r => r), T.kit j 7 hj (by decide), (by show 4 ≤ sizeLine; decide), fun L2 n2 => ?_⟩
    have s2 := same_new (o := .lst [.bl (decide (j = 4)), .bl (decide (j = 5)), .bl (decide (j = 6)), .bl (decide (j = 7))]) n2
    refine ⟨L1, L2, _, _, rfl, rfl, s2 _ _ upd_same, upd_same, (by show 8 ≤ sizeLine; decide), fun L3 n3 => ?_⟩
    have s3 := same_new (o := .lst [.bl (decide (j = 0)), .bl (decide (j = 1)), .bl (decide (j = 2)), .bl (decide (j = 3)), .bl (decide (j = 4)), .bl (decide (j = 5)), .bl (decide (j = 6)), .bl (decide (j = 7))]) n3
    refine ⟨_, rfl, _, rfl, _, _, decide (j = 8), rfl, (fun _ r => r), T.kit j 8 hj (by decide), _, rfl, _, _, decide (j = 9), rfl, (fun _ r => r), T.kit j 9 hj (by decide), _, rfl, _, _, decide (j = 10), rfl, (fun _ r => r), T.kit j 10 hj (by decide), _, rfl, _, _, decide (j = 11), rfl, (fun _ r => r), T.kit j 11 hj (by decide), (by show 4 ≤ sizeLine; decide), fun L4 n4 => ?_⟩
    have s4 := same_new (o := .lst [.bl (decide (j = 8)), .bl (decide (j = 9)), .bl (decide (j = 10)), .bl (decide (j = 11))]) n4
    refine ⟨L3, L4, _, _, rfl, rfl, s4 _ _ upd_same, upd_same, (by show 12 ≤ sizeLine; decide), fun L5 n5 => ?_⟩
    have s5 := same_new (o := .lst [.bl (decide (j = 0)), .bl (decide (j = 1)), .bl (decide (j = 2)), .bl (decide (j = 3)), .bl (decide (j = 4)), .bl (decide (j = 5)), .bl (decide (j = 6)), .bl (decide (j = 7)), .bl (decide (j = 8)), .bl (decide (j = 9)), .bl (decide (j = 10)), .bl (decide (j = 11))]) n5
    refine ⟨_, rfl, _, rfl, _, _, decide (j = 12), rfl, (fun _ r => r), T.kit j 12 hj (by decide), _, rfl, _, _, decide (j = 13), rfl, (fun _ r => r), T.kit j 13 hj (by decide), _, rfl, _, _, decide (j = 14), rfl, (fun _ r => r), T.kit j 14 hj (by decide), (by show 3 ≤ sizeLine; decide), fun L6 n6 => ?_⟩
    have s6 := same_new (o := .lst [.bl (decide (j = 12)), .bl (decide (j = 13)), .bl (decide (j = 14))]) n6
    refine ⟨L5, L6, _, _, rfl, rfl, s6 _ _ upd_same, upd_same, (by show 15 ≤ sizeLine; decide), fun L7 n7 => ?_⟩
    have s7 := same_new (o := .lst [.bl (decide (j = 0)), .bl (decide (j = 1)), .bl (decide (j = 2)), .bl (decide (j = 3)), .bl (decide (j = 4)), .bl (decide (j = 5)), .bl (decide (j = 6)), .bl (decide (j = 7)), .bl (decide (j = 8)), .bl (decide (j = 9)), .bl (decide (j = 10)), .bl (decide (j = 11)), .bl (decide (j = 12)), .bl (decide (j = 13)), .bl (decide (j = 14))]) n7
    have hL := upd_same (H := upd (upd (upd (upd (upd (upd H L1 (.lst [.bl (decide (j = 0)), .bl (decide (j = 1)), .bl (decide (j = 2)), .bl (decide (j = 3))])) L2 (.lst [.bl (decide (j = 4)), .bl (decide (j = 5)), .bl (decide (j = 6)), .bl (decide (j = 7))])) L3 (.lst [.bl (decide (j = 0)), .bl (decide (j = 1)), .bl (decide (j = 2)), .bl (decide (j = 3)), .bl (decide (j = 4)), .bl (decide (j = 5)), .bl (decide (j = 6)), .bl (decide (j = 7))])) L4 (.lst [.bl (decide (j = 8)), .bl (decide (j = 9)), .bl (decide (j = 10)), .bl (decide (j = 11))])) L5 (.lst [.bl (decide (j = 0)), .bl (decide (j = 1)), .bl (decide (j = 2)), .bl (decide (j = 3)), .bl (decide (j = 4)), .bl (decide (j = 5)), .bl (decide (j = 6)), .bl (decide (j = 7)), .bl (decide (j = 8)), .bl (decide (j = 9)), .bl (decide (j = 10)), .bl (decide (j = 11))])) L6 (.lst [.bl (decide (j = 12)), .bl (decide (j = 13)), .bl (decide (j = 14))])) (a := L7) (o := .lst ((kbs j).map V.bl))
    refine ⟨_, rfl, .inl ⟨rfl, _, SqL.of hL⟩, L7, kbs j, rfl, rfl, SqL.of hL, ?_⟩
    rw [kbs_count h15]
    refine ⟨rfl, _, rfl, iteNS rfl ?_⟩
    refine ⟨_, rfl, _, _, true, rfl, (fun _ r => r), T.kve j hj, _, rfl, iteF ?_⟩
    refine ⟨(by show 9 ≤ sizeLine; decide), fun W1 m1 => ?_⟩
    have t1 := same_new (o := .lst [.str "NoFraction", .str "NoRow", .str "NoName", .str "Stands", .str "Full", .str "NoLevel", .str "NoMark", .str "NothingDone", .str "NoPoint"]) m1
    refine ⟨_, rfl, (by show 6 ≤ sizeLine; decide), fun W2 m2 => ?_⟩
    have t2 := same_new (o := .lst [.str "NoStep", .str "NoNumber", .str "NoNames", .str "NoText", .str "NoLine", .str "NoWord"]) m2
    refine ⟨W1, W2, _, _, rfl, rfl, t2 _ _ upd_same, upd_same, (by show 15 ≤ sizeLine; decide), fun W3 m3 => ?_⟩
    have t3 := same_new (o := .lst [.str "NoFraction", .str "NoRow", .str "NoName", .str "Stands", .str "Full", .str "NoLevel", .str "NoMark", .str "NothingDone", .str "NoPoint", .str "NoStep", .str "NoNumber", .str "NoNames", .str "NoText", .str "NoLine", .str "NoWord"]) m3
    have hL3 := t3 _ _ (t2 _ _ (t1 _ _ hL))
    refine ⟨_, rfl, .inl ⟨rfl, _, SqL.of hL3⟩, L7, _, .bl true, j, .bl true, rfl, rfl, SqL.of hL3, rfl, kbs_flat j, kbs_get h15, rfl, fun m z hm e => kbs_no h15 m z hm e, ?_⟩
    refine ⟨W3, _, _, _, rfl, rfl, SqL.of upd_same, nms_get h15, q _ ?_⟩
    exact ((((((((s1.trans s2).trans s3).trans s4).trans s5).trans s6).trans s7).trans t1).trans t2).trans t3
end
end SS
namespace SS
open PySem PySem.Spec PyProof.Rows L2 TL NumText
section
variable {P : Program} {w : World} {K : PySem.W.Frag} {mg : Str → Option Value} {base : Heap} {Cs : Nat → Addr}
/-- asked: told or refused -/
def spAsked (K : PySem.W.Frag) (T : List Addr) : Sp := fun vs H Q _ => ∃ (b : Bool) (x : Str), vs = [.int (if b = true then 1 else 0), .str x] ∧ x.length ≤ 890 ∧ (tl x).count 32 ≤ 35 ∧ Tabs T H ∧
  ((b = false ∧ outS x = none) ∨ (b = true ∧ outR x = none) → ∀ H' t, SameT T H H' → H' t = some (.tup [.str "refused", .str "NoText"]) → Q (.ref t) H') ∧
  (∀ ps, b = false → outS x = some ps → ∀ H' t c ks, SameT T H H' → H' t = some (.tup [.str "told", .ref c]) → DM True 18 H' c ks (fOf ps) → Q (.ref t) H') ∧
  (∀ ps srt num, b = true → outR x = some (ps, srt, num) → ∀ H' t r a ks, SameT T H H' → H' t = some (.tup [.str "told", .ref r]) → RowT K 18 H' r a ks (fOf ps) srt num → Q (.ref t) H')
theorem scAsked : FnScope ["_law_way", "_law_text", "_law_e"] ["_law_way", "_law_text"] (defScope sAsked) := ⟨rfl, rfl, rfl, by decide +kernel, rfl, by decide +kernel, by decide +kernel⟩
theorem ok_asked {f : Addr} {fd : FuncData} {T : List Addr} (F : Fun K "_law_asked" "_law_asked" sAsked f fd) (X : C16 K mg Cs) (rs : Cl P w K mg base (L2.CX P w) 6 "read_sum" (spRdSG T (Cs 12)) []) (rr : Cl P w K mg base (L2.CX P w) 7 "read_row" (spRdRG K T (Cs 12)) [])
    (kd : ∀ (a : Addr) (oe : Obj), Zc (.ref (Cs 12)) none oe → (∃ vs, oe.data = .fields vs) → ClP P w K mg base 1 "_law_kind" (spKind a 12) (a, oe)) : FnOk P w K mg base CX0 8 f fd ["_law_way", "_law_text"] (spAsked K T) := by
  refine F.ok scAsked (fun vs H Q E h => ?_) (fun cdv A outer s H vs Q E hr h => ?_)
  · obtain ⟨_, _, rfl, _⟩ := h
    rfl
  · obtain ⟨b, x, rfl, hx, hc, ht, k0, k1, k2⟩ := h
    refine ⟨_, pss_one (ps_try_as (i := 2) (Wout := fun _ _ _ _ => False) rfl rfl scAsked.nd rfl rfl ⟨rfl, by decide, .inl (X.ext 15 (by decide)).gC⟩ takes0
        (fun W pn xe tk _ => pss_cons (ps_if (pt_cmpR op_eq (pv 0) pe_int (nomark _)) (pss_one (ps_ret (pe_tup (pa_cons pe_str (pa_cons (pcS rs hr (by decide) (fun σ => passAt tk σ) (pa_cons (pv 1) pa_nil)) pa_nil))))) pss_nil)
          (pss_one (ps_ret (pe_tup (pa_cons pe_str (pa_cons (pcS rr hr (by decide) (fun σ => passAt tk σ) (pa_cons (pv 1) pa_nil)) pa_nil))))))
        (fun a oe cls d pn hz hf => pss_one (ps_ret (pe_tup (pa_cons pe_str (pa_cons (pe_when (p := cls = .ref (Cs 12) ∧ d = none) (fun ⟨e1, e2⟩ => pcP (kd a oe (by rw [← e1, ← e2]; exact hz) hf) (roomP (hr.mono (by decide)) _) List.mem_cons_self (pa_cons (pv 2) pa_nil))) pa_nil)))))), ?_⟩
    cases b with
    | false =>
      refine ⟨_, rfl, rfl, _, rfl, ite2 (fun _ => ?_) (fun z => absurd (decide_eq_true rfl) z)⟩
      refine ⟨_, rfl, x, rfl, by omega, hc, ht, fun ps hN H1 c ks s1 nc d1 => ?_, fun hN H1 s1 => ?_⟩
      · refine ⟨small2, fun t nt => ?_⟩
        have s2 := same_new (o := .tup [.str "told", .ref c]) nt
        exact k1 ps rfl hN _ t c ks (s1.trans (SameT.of s1.tab s2)) upd_same (d1.same s2)
      · refine ⟨true, X.exm 12 (by decide), fun _ ae ha => ?_, fun z => Bool.noConfusion z⟩
        refine ⟨⟨rfl, rfl⟩, _, rfl, rfl, fun H' s' => ⟨small2, fun t nt => ?_⟩⟩
        have s2 := same_new (o := .tup [.str "refused", .str "NoText"]) nt
        exact k0 (.inl ⟨rfl, hN⟩) _ t ((s1.trans (SameT.of s1.tab s')).trans (SameT.of (s1.tab.same s') s2)) upd_same
    | true =>
      refine ⟨_, rfl, rfl, _, rfl, ite2 (fun z => absurd (V.int.inj (of_decide_eq_true z)) (by decide)) (fun _ => ?_)⟩
      refine ⟨_, rfl, x, rfl, by omega, hc, ht, fun ps srt num hN H1 r a ks s1 nr R1 => ?_, fun hN H1 s1 => ?_⟩
      · refine ⟨small2, fun t nt => ?_⟩
        have s2 := same_new (o := .tup [.str "told", .ref r]) nt
        exact k2 ps srt num rfl hN _ t r a ks (s1.trans (SameT.of s1.tab s2)) upd_same (R1.same s2)
      · refine ⟨true, X.exm 12 (by decide), fun _ ae ha => ?_, fun z => Bool.noConfusion z⟩
        refine ⟨⟨rfl, rfl⟩, _, rfl, rfl, fun H' s' => ⟨small2, fun t nt => ?_⟩⟩
        have s2 := same_new (o := .tup [.str "refused", .str "NoText"]) nt
        exact k0 (.inr ⟨rfl, hN⟩) _ t ((s1.trans (SameT.of s1.tab s')).trans (SameT.of (s1.tab.same s') s2)) upd_same
end
end SS
namespace SS
open PySem PySem.Spec PyProof.Rows L2
theorem DM.perm {z : Prop} {m : Nat} {H : Hp} {a c : Addr} {kvs ks : List (Key × V)} {f : Key → Int × Int} (h : DM z m H a kvs f) (p : ks.Perm kvs) (n : H c = none) : DM z m (L2.upd H c (.dK ks)) c ks f := by
  have q := h.same (same_new (o := .dK ks) n)
  obtain ⟨_, h2, h3, h4, _⟩ := q
  have pm := p.map (fun x : Key × V => x.1)
  refine ⟨upd_same, pm.nodup_iff.mpr h2, by rw [p.length_eq]; exact h3, fun x hx => h4 x (p.mem_iff.mp hx), fun k e => h.out fun hm => ?_⟩
  exact valV_not e (pm.mem_iff.mpr hm)
section
variable {P : Program} {w : World} {K : PySem.W.Frag} {mg : Str → Option Value} {base : Heap}
def spAnyRow (K : PySem.W.Frag) : Sp := fun vs H Q _ => ∃ (st c u : Addr) (xs : List Str), vs = [.ref st, .ref u] ∧ StA st c H ∧ H u = some (.lst (xs.map V.str)) ∧ xs.length ≤ 9 ∧ (∀ x ∈ xs, NmOk x) ∧
  ∀ H' r a kvs f srt num, But st H H' → StA st c H' → H a = none → RowT K (xs.length) H' r a kvs f srt num → (∀ k, Okb 20 (f k)) → Okb 20 num → Q (.ref r) H'
theorem scAnyRow : FnScope ["_law_state", "_law_unknowns", "_law_one", "_law_keys", "_law_sort", "_law_key"] ["_law_state", "_law_unknowns"] (defScope sAnyRow) := ⟨rfl, rfl, rfl, by decide +kernel, rfl, by decide +kernel, by decide +kernel⟩
set_option maxHeartbeats 2000000 in
theorem ok_anyrow {f' : Addr} {fd : FuncData} (F : Fun K "_law_any_row" "_law_any_row" sAnyRow f' fd) (md : mg "dict" = none) (mli : mg "list" = none) (ss : Cl P w K mg base CX0 5 "_law_some_sum" spSsum []) (tk : Cl P w K mg base CX0 3 "_law_take" spTake []) (nm : Cl P w K mg base CX0 4 "_law_number" spNumber []) :
    FnOk P w K mg base CX0 6 f' fd ["_law_state", "_law_unknowns"] (spAnyRow K) := by
  refine F.ok scAnyRow (fun vs H Q E h => ?_) (fun cdv A outer s H vs Q E hr h => ?_)
  · obtain ⟨_, _, _, _, rfl, _⟩ := h
    rfl
  · obtain ⟨st, c, u, xs, rfl, s0, hu0, xl, hx, q⟩ := h
    have hu := hu_of hr
    refine ⟨_, pss_cons (ps_set (i := 2) scAnyRow.nd rfl (.inr rfl) (pc0 ss hr (by decide) (pa_cons (pv 0) (pa_cons (pv 1) pa_nil))))
      (pss_cons (ps_set (i := 3) scAnyRow.nd rfl (.inl rfl) (pe_callTy (call_list_dK rfl) (by rfl) mli (by decide +kernel) (pa_cons (pv 2) pa_nil)))
      (pss_cons (ps_if (pt_cmpR op_eq (pc0 tk hr (by decide) (pa_cons (pv 0) (pa_cons pe_int pa_nil))) pe_int (nomark _)) (pss_one (ps_set (i := 3) scAnyRow.nd rfl (.inl rfl) (pe_revL (pv 3)))) pss_nil)
      (pss_cons (ps_set (i := 4) scAnyRow.nd rfl (.inl rfl) (pe_ix ix_tup (pe_tup (pa_cons pe_str (pa_cons pe_str (pa_cons pe_str (pa_cons pe_str (pa_cons pe_str pa_nil)))))) (pc0 tk hr (by decide) (pa_cons (pv 0) (pa_cons pe_int pa_nil))) (fun _ _ => rfl)))
      (pss_one (ps_ret (pe_tup (pa_cons (pe_callTy (call_dictP rfl) (by rfl) md (by decide +kernel) (pa_cons (pe_lc (own := [("_law_key", 5)]) (g := gName 5) (tt := tYes) rfl scAnyRow.nd (pi_list (pv 3)) (blkOk_by (by rfl))
          (fun _ _ _ _ _ => pg_name (i := 5) scAnyRow.nd rfl (Or.inl rfl)) (fun _ _ _ _ _ => pts_nil)
          (fun _ _ _ _ _ => pe_tup (pa_cons (pv 5) (pa_cons (pe_dget hu (pv 2) (pv 5) (fun _ _ => rfl)) pa_nil)))) pa_nil)) (pa_cons (pv 4) (pa_cons (pc0 nm hr (by decide) (pa_cons (pv 0) pa_nil)) pa_nil))))))))), ?_⟩
    refine ⟨_, rfl, _, rfl, st, c, u, xs, rfl, s0, hu0, xl, hx, fun H1 a1 k1 b1 s1 na1 d1 z1 => ?_⟩
    have D1 : DM True (xs.length) H1 a1 k1 (pval H1 k1) := (d1.dm z1).mono (by omega)
    have ok1 : ∀ k, Okb 20 (pval H1 k1 k) := fun k => d1.okp (k := 19) k
    generalize pval H1 k1 = f1 at D1 ok1
    refine ⟨_, rfl, a1, k1, rfl, D1.1, fun L nL => ?_⟩
    have sL := same_new (o := .lst (k1.map fun kv => kV kv.1)) nL
    have hL := upd_same (H := H1) (a := L) (o := .lst (k1.map fun kv => kV kv.1))
    have s2 := s1.same sL
    have D2 := D1.same sL
    have B2 : But st H _ := b1.trans (Same.but sL)
    have Ls := s1.fresh nL
    generalize upd H1 L (.lst (k1.map fun kv => kV kv.1)) = H2 at hL s2 D2 B2 ⊢
    refine' mid (C := _) (Inv := fun σ H' => ∃ (Lk : Addr) (ks : List (Key × V)) (y4 y5 : Option V), σ = [some (.ref st), some (.ref u), some (.ref a1), some (.ref Lk), y4, y5] ∧ But st H H' ∧ StA st c H' ∧ DM True (xs.length) H' a1 k1 f1 ∧ ks.Perm k1 ∧ H' Lk = some (.lst (ks.map fun kv => kV kv.1))) (fun key => ?main) ?cont
    case main =>
      refine ⟨_, rfl, st, c, 2, rfl, by decide, lt8 (by decide), s2, fun H3 d3 b3 s3 l3 u3 => ⟨rfl, _, rfl, ite2 (fun e => ?ya) (fun e => ?yb)⟩⟩
      case yb => exact key _ _ ⟨L, k1, _, _, rfl, B2.trans b3, s3, D2.but b3 s2, List.Perm.refl _, b3 _ _ Ls hL⟩
      case ya =>
        have hL3 := b3 _ _ Ls hL
        refine ⟨_, rfl, L, _, rfl, SqL.of hL3, fun L2 nL2 => ?_⟩
        have sL2 := same_new (o := .lst (k1.map fun kv => kV kv.1).reverse) nL2
        refine key _ _ ⟨L2, k1.reverse, _, _, rfl, (B2.trans b3).trans (Same.but sL2), s3.same sL2, (D2.but b3 s2).same sL2, List.reverse_perm k1, ?_⟩
        rw [upd_same, List.map_reverse]
    case cont =>
      rintro σ H4 ⟨Lk, ks, y4, y5, rfl, B4, s4, D4, pm, hLk⟩
      have kl : ks.length ≤ 10 := by
        rw [pm.length_eq]
        exact Nat.le_trans D4.2.2.1 (by omega)
      have ndk : (ks.map (·.1)).Nodup := (pm.map (fun x : Key × V => x.1)).nodup_iff.mpr D4.2.1
      have Lks : Lk ≠ st := fun e => by
        obtain ⟨i, n, ff, ys, g1, _⟩ := s4
        rw [e, g1] at hLk
        have z := HO.lst.inj (Option.some.inj hLk)
        cases ks with
        | nil => cases z
        | cons p r =>
          have z1 : V.ref c = kV p.1 := (List.cons.inj z).1
          cases hk : p.1 with
          | inl i =>
            rw [hk] at z1
            cases z1
          | inr x =>
            rw [hk] at z1
            cases z1
      refine ⟨by show 5 ≤ sizeLine; decide, fun U nU => ?_⟩
      have sU := same_new (o := .tup (sorts.map V.str)) nU
      refine ⟨_, rfl, st, c, 5, rfl, by decide, lt8 (by decide), s4.same sU, fun H5 d5 b5 s5 l5 u5 => ?_⟩
      obtain ⟨srt, hs1, hs2⟩ := at_str (xs := sorts) l5 u5
      have hU5 : H5 U = some (.tup (sorts.map V.str)) := b5.tup (s4.same sU) upd_same
      refine ⟨U, _, d5, _, rfl, rfl, SqT.of hU5, hs2, ?_⟩
      have D5 := (D4.same sU).but b5 (s4.same sU)
      have hL5 := b5 _ _ Lks (sU _ _ hLk)
      have B5 := (B4.trans (Same.but sU)).trans b5
      clear hU5 sU nU
      refine ⟨_, rfl, Lk, rfl, ⟨_, SqL.of hL5⟩, fun D nD => ?_⟩
      have Ds := s5.fresh nD
      have Dc := s5.fresh2 nD
      have LD : Lk ≠ D := ne_of_none hL5 nD
      refine lc_list (K := K) (a := Lk) (xs := ks.map fun kv => kV kv.1) (fun i H' => ∃ ts : List Addr, H' D = some (.lst (ts.map V.ref)) ∧ (∀ x o, x ≠ D → H5 x = some o → H' x = some o) ∧ Paired (fun (t : Addr) (q : Key × V) => H' t = some (.tup [kV q.1, q.2])) ts (ks.take i))
        ⟨[], upd_same, fun x o n2 e => by rw [upd_ne n2]; exact e, .nil⟩ (fun i H' _ ⟨_, _, w3, _⟩ => SqL.of (w3 _ _ LD hL5)) ?_ ?_
      · rintro i y H6 hy ⟨ts, w1, w3, w5⟩
        obtain ⟨p, hp, rfl⟩ : ∃ p, ks[i]? = some p ∧ y = kV p.1 := by
          rw [List.getElem?_map] at hy
          cases e : ks[i]? with
          | none =>
            rw [e] at hy
            cases hy
          | some p =>
            rw [e] at hy
            exact ⟨p, rfl, (Option.some.inj hy).symm⟩
        have hi : i < 10 := Nat.lt_of_lt_of_le (List.getElem?_eq_some_iff.mp hp).1 kl
        have a1D : a1 ≠ D := ne_of_none D5.1 nD
        have ev : valV k1 p.1 = some p.2 := val_nodup D5.2.1 p (pm.mem_iff.mp (List.mem_of_getElem? hp))
        have dg : DGet H6 a1 (kV p.1) (some p.2) := by
          have z := DGet.k (k := p.1) (w3 _ _ a1D D5.1)
          rw [ev] at z
          exact z
        refine ⟨rfl, _, rfl, _, rfl, _, rfl, a1, _, rfl, dg, small2, fun T nT => ?_⟩
        have sT := same_new (o := .tup [kV p.1, p.2]) nT
        have hD7 := sT _ _ w1
        have kD := keep_l (o := .lst (ts.map V.ref ++ [.ref T])) hD7
        have tl : ts.length ≤ i := by
          have z := (paired_at w5).1
          rw [List.length_take] at z
          omega
        refine ⟨_, hD7, ?_, ts ++ [T], ?_, ?_, ?_⟩
        · rw [List.length_map]
          exact small1000 (by omega)
        · rw [upd_same, List.map_append]
          rfl
        · intro x' o n2 e'
          rw [upd_ne n2]
          exact sT _ _ (w3 _ _ n2 e')
        · rw [List.take_add_one, hp]
          exact Paired.snocX (Paired.impX w5 fun t q' ht => kD _ _ (sT _ _ ht)) (kD _ _ upd_same)
      · rintro H6 ⟨ts, w1, w3, w5⟩
        have ek : ks.take (ks.map fun kv => kV kv.1).length = ks := by rw [List.length_map]; exact List.take_length
        rw [ek] at w5
        refine ⟨D, ts, ks, rfl, SqL.of w1, Paired.impX w5 (fun t q' ht => SqT.of ht), fun Pt nPt => ?_⟩
        rw [merge_nd ks [] ndk]
        have S6 : Same H5 H6 := fun x o e => w3 _ _ (ne_of_none e nD) e
        have DP := (D5.same S6).perm pm nPt
        have sP := same_new (o := .dK ks) nPt
        have s6 := (s5.same S6).same sP
        have B6 := (B5.trans (Same.but S6)).trans (Same.but sP)
        refine ⟨_, rfl, _, rfl, st, c, rfl, s6, fun H7 p7 b7 s7 f7 => ⟨by show 3 ≤ sizeLine; decide, fun R nR => ?_⟩⟩
        have sR := same_new (o := .tup [.ref Pt, .str srt, .ref p7]) nR
        have hn := f7.val.1
        have okn := f7.okb
        generalize fval H7 (.ref p7) = num at hn okn
        refine q _ R Pt ks f1 srt num ((B6.trans b7).trans (Same.but sR)) (s7.same sR) ?_ ⟨p7, upd_same, (DP.but b7 s6).same sR, FrT.of (sR _ _ hn), hs1⟩ ok1 okn
        cases e : H Pt with
        | none => rfl
        | some o =>
          exfalso
          by_cases c1 : Pt = st
          · obtain ⟨i, n, ff, xs', g1, _⟩ := s5.same S6
            rw [c1, g1] at nPt
            cases nPt
          · have z := (B5.trans (Same.but S6)) _ _ c1 e
            rw [nPt] at z
            cases z
end
end SS
namespace SS
open PySem PySem.Spec PyProof.Rows L2 TL NumText
theorem lt82 {n : Nat} (h : n < 2 ^ 200) : n < 2 ^ 8000 := Nat.lt_of_lt_of_le h (Nat.pow_le_pow_right (by decide) (by decide))
theorem DM.inl {z : Prop} {m : Nat} {H : Hp} {a : Addr} {kvs : List (Key × V)} {f : Key → Int × Int} (h : DM z m H a kvs f) (i : Int) : f (.inl i) = (0, 1) := h.out fun hm => by
  obtain ⟨p, hp, e⟩ := List.mem_map.mp hm
  obtain ⟨⟨x, e1, _⟩, _⟩ := h.2.2.2.1 p hp
  have e' : p.1 = .inl i := e
  rw [e1] at e'
  cases e'
theorem xr_dm {K : PySem.W.Frag} {m m' : Nat} {H : Hp} {a a' : Addr} {kvs ls : List (Key × V)} {f : Key → Int × Int} (k : Nat) (h : DM True m H a kvs f) (h' : DM True m' H a' ls f) : XR K H (XV K H (k + 2)) (.ref a) (.ref a') := by
  obtain ⟨x, y, kx, ky, e1, e2, hx, hy, hl, hp⟩ := deq_of h h'
  cases e1
  cases e2
  refine .inl (.inr ⟨a, a', kx, ky, rfl, rfl, hx, hy, hl, fun p hpm => ?_⟩)
  obtain ⟨u, eu, p1, p2, n, d, e3, e4, g1, g2⟩ := hp p hpm
  refine ⟨u, eu, ?_⟩
  rw [e3, e4]
  exact xv_fr k (FrT.of g1) (FrT.of g2)
theorem putK_len {kvs : List (Key × V)} {k : Key} {v w : V} (h : valV kvs k = some w) : (putK kvs k v).length = kvs.length := by
  unfold putK
  rw [if_pos, List.length_map]
  unfold valV at h
  cases e : kvs.find? (fun kv => decide (kv.1 = k)) with
  | none =>
    rw [e] at h
    cases h
  | some p => exact List.any_eq_true.mpr ⟨p, List.mem_of_find?_eq_some e, List.find?_some (p := fun kv : Key × V => decide (kv.1 = k)) e⟩
theorem okb20_fg {N : Int × Int} (h : Okb 20 N) : Okb 110 N := h.mono (by decide)
section
variable {P : Program} {w : World} {K : PySem.W.Frag} {mg : Str → Option Value} {base : Heap}
def spGreat (K : PySem.W.Frag) : Sp := fun vs H Q _ => ∃ (st c r a : Addr) (kvs : List (Key × V)) (f : Key → Int × Int) (srt : Str) (num : Int × Int) (m : Nat), vs = [.ref st, .ref r] ∧ m ≤ 10 ∧ StA st c H ∧ RowT K m H r a kvs f srt num ∧ (∀ k, Okb 20 (f k)) ∧ Okb 20 num ∧
  ∀ H' r' a' ks g num', But st H H' → StA st c H' → RowT K m H' r' a' ks g srt num' → (∀ k, Okb 110 (g k)) → Okb 110 num' → Q (.ref r') H'
theorem scGreat : FnScope ["_law_state", "_law_row", "_law_size", "_law_under", "_law_top", "_law_number_here", "_law_keys", "_law_at", "_law_one"] ["_law_state", "_law_row"] (defScope sGreat) := ⟨rfl, rfl, rfl, by decide +kernel, rfl, by decide +kernel, by decide +kernel⟩
set_option maxHeartbeats 2000000 in
theorem ok_great {f' : Addr} {fd : FuncData} (F : Fun K "_law_with_great" "_law_with_great" sGreat f' fd) (mso : mg "sorted" = none) (ml : mg "len" = none) (md : mg "dict" = none) (tk : Cl P w K mg base CX0 3 "_law_take" spTake []) (fc : Cl P w K mg base CX0 2 "_law_frac" spFrac []) : FnOk P w K mg base CX0 4 f' fd ["_law_state", "_law_row"] (spGreat K) := by
  refine F.ok scGreat (fun vs H Q E h => ?_) (fun cdv A' outer s H vs Q E hr h => ?_)
  · obtain ⟨_, _, _, _, _, _, _, _, _, rfl, _⟩ := h
    rfl
  · obtain ⟨st, c, r, a, kvs, f, srt, num, m, rfl, m10, s0, R0, okf, okn, q⟩ := h
    have hu := hu_of hr
    refine ⟨_, pss_cons (ps_set (i := 2) scGreat.nd rfl (.inl rfl) (pe_ix ix_tup (pe_tup (pa_cons (pe_op op_pow pe_int pe_int) (pa_cons (pe_op op_pow pe_int pe_int) (pa_cons (pe_op op_pow pe_int pe_int) pa_nil)))) (pc0 tk hr (by decide) (pa_cons (pv 0) (pa_cons pe_int pa_nil))) (fun _ _ => rfl)))
      (pss_cons (ps_set (i := 3) scGreat.nd rfl (.inl rfl) (pe_ix ix_tup (pe_tup (pa_cons pe_int (pa_cons (pe_op op_sub (pv 2) pe_int) pa_nil))) (pc0 tk hr (by decide) (pa_cons (pv 0) (pa_cons pe_int pa_nil))) (fun _ _ => rfl)))
      (pss_cons (ps_set (i := 4) scGreat.nd rfl (.inl rfl) (pe_op op_sub (pe_op op_sub (pv 2) pe_int) (pc0 tk hr (by decide) (pa_cons (pv 0) (pa_cons (pe_op op_fdivG (pv 2) pe_int) pa_nil)))))
      (pss_cons (ps_set (i := 5) scGreat.nd rfl (.inl rfl) (pc0 fc hr (by decide) (pa_cons (pe_op op_mulW (pv 4) (pe_op op_sub pe_int (pe_op op_mul pe_int (pc0 tk hr (by decide) (pa_cons (pv 0) (pa_cons pe_int pa_nil)))))) (pa_cons (pe_op op_add pe_int (pc0 tk hr (by decide) (pa_cons (pv 0) (pa_cons (pv 3) pa_nil)))) pa_nil))))
      (pss_cons (ps_set (i := 6) scGreat.nd rfl (.inl rfl) (pe_callB (call_sortedD rfl) (by rfl) mso (by decide +kernel) (pa_cons (pe_ix ix_tup (pv 1) pe_int (fun _ _ => rfl)) pa_nil)))
      (pss_cons (ps_set (i := 7) scGreat.nd rfl (.inl rfl) (pc0 tk hr (by decide) (pa_cons (pv 0) (pa_cons (pe_op op_add (pe_callB call_len_seq (by rfl) ml PySem.boot_len (pa_cons (pv 6) pa_nil)) pe_int) pa_nil))))
      (pss_cons (ps_if (pt_cmpR op_eq (pv 7) (pe_callB call_len_seq (by rfl) ml PySem.boot_len (pa_cons (pv 6) pa_nil)) (nomark _)) (pss_one (ps_ret (pe_tup (pa_cons (pe_ix ix_tup (pv 1) pe_int (fun _ _ => rfl)) (pa_cons (pe_ix ix_tup (pv 1) pe_int (fun _ _ => rfl)) (pa_cons (pv 5) pa_nil)))))) pss_nil)
      (pss_cons (ps_set (i := 8) scGreat.nd rfl (.inl rfl) (pe_callTy call_dictD (by rfl) md (by decide +kernel) (pa_cons (pe_ix ix_tup (pv 1) pe_int (fun _ _ => rfl)) pa_nil)))
      (pss_cons (ps_dput hu (pv 8) (pe_ix ix_list (pv 6) (pv 7) (fun _ _ => rfl)) (pv 5) rfl)
      (pss_one (ps_ret (pe_tup (pa_cons (pv 8) (pa_cons (pe_ix ix_tup (pv 1) pe_int (fun _ _ => rfl)) (pa_cons (pe_ix ix_tup (pv 1) pe_int (fun _ _ => rfl)) pa_nil)))))))))))))), ?_⟩
    refine ⟨10, 29, rfl, rfl, ⟨by decide, by decide, by decide⟩, 10, 30, rfl, rfl, ⟨by decide, by decide, by decide⟩, 10, 31, rfl, rfl, ⟨by decide, by decide, by decide⟩, by show 3 ≤ sizeLine; decide, fun U nU => ?_⟩
    have sU := same_new (o := .tup [.int (10 ^ 29), .int (10 ^ 30), .int (10 ^ 31)]) nU
    have hU := upd_same (H := H) (a := U) (o := .tup [.int (10 ^ 29), .int (10 ^ 30), .int (10 ^ 31)])
    refine ⟨_, rfl, st, c, 3, rfl, by decide, lt8 (by decide), s0.same sU, fun H1 d1 b1 s1 l1 u1 => ?_⟩
    obtain ⟨sz, ez, z0, z1⟩ : ∃ z : Int, atI [V.int (10 ^ 29), V.int (10 ^ 30), V.int (10 ^ 31)] d1 = some (.int z) ∧ 10 ^ 29 ≤ z ∧ z ≤ 10 ^ 31 := by
      rcases (show d1 = 0 ∨ d1 = 1 ∨ d1 = 2 by omega) with e | e | e <;> subst e
      · exact ⟨10 ^ 29, rfl, by decide, by decide⟩
      · exact ⟨10 ^ 30, rfl, by decide, by decide⟩
      · exact ⟨10 ^ 31, rfl, by decide, by decide⟩
    refine ⟨U, _, d1, _, rfl, rfl, SqT.of (b1.tup (s0.same sU) hU), ez, ?_⟩
    have B1 : But st H H1 := (Same.but sU).trans b1
    refine ⟨_, rfl, sz, 1, rfl, rfl, small2, fun U2 nU2 => ?_⟩
    have sU2 := same_new (o := .tup [.int 1, .int (sz - 1)]) nU2
    have hU2 := upd_same (H := H1) (a := U2) (o := .tup [.int 1, .int (sz - 1)])
    refine ⟨_, rfl, st, c, 2, rfl, by decide, lt8 (by decide), s1.same sU2, fun H2 d2 b2 s2 l2 u2 => ?_⟩
    obtain ⟨un, eu, un0, un1⟩ : ∃ z : Int, atI [V.int 1, V.int (sz - 1)] d2 = some (.int z) ∧ 1 ≤ z ∧ z ≤ sz - 1 := by
      rcases (show d2 = 0 ∨ d2 = 1 by omega) with e | e <;> subst e
      · exact ⟨1, rfl, by decide, by omega⟩
      · exact ⟨sz - 1, rfl, by omega, Int.le_refl _⟩
    refine ⟨U2, _, d2, _, rfl, rfl, SqT.of (b2.tup (s1.same sU2) hU2), eu, ?_⟩
    have B2 : But st H H2 := (B1.trans (Same.but sU2)).trans b2
    have hf : Int.fdiv sz 2 = sz / 2 := Int.fdiv_eq_ediv_of_nonneg _ (by decide)
    refine ⟨_, rfl, sz, 1, rfl, rfl, _, rfl, _, rfl, sz, 2, rfl, rfl, ⟨by decide, by decide⟩, st, c, sz.fdiv 2, rfl, by omega, lt82 (by omega), s2, fun H3 d3 b3 s3 l3 u3 => ⟨sz - 1, d3, rfl, rfl, ?_⟩⟩
    have tp0 : 0 < sz - 1 - d3 := by omega
    have tp1 : sz - 1 - d3 < 10 ^ 31 := by omega
    refine ⟨_, rfl, _, rfl, st, c, 2, rfl, by decide, lt8 (by decide), s3, fun H4 d4 b4 s4 l4 u4 => ⟨2, d4, rfl, rfl, .inl ⟨by decide, by decide⟩, 1, 2 * d4, rfl, rfl, sz - 1 - d3, 1 - 2 * d4, rfl, rfl, wide_mul (a := 200) (b := 100) (by omega) (by omega) (by decide) (by decide) (by decide), ?_⟩⟩
    refine ⟨_, rfl, _, rfl, st, c, un, rfl, by omega, lt82 (by omega), s4, fun H5 d5 b5 s5 l5 u5 => ⟨1, d5, rfl, rfl, ?_⟩⟩
    obtain ⟨t, et⟩ : ∃ t, (sz - 1 - d3) * (1 - 2 * d4) = t := ⟨_, rfl⟩
    have t1 : t.natAbs < 10 ^ 31 ∧ t ≠ 0 := by
      rcases (show d4 = 0 ∨ d4 = 1 by omega) with e | e <;> subst e <;> omega
    have nz : 1 + d5 ≠ 0 := by omega
    refine ⟨t, 1 + d5, by subst et; rfl, nz, lt82 (by omega), fun pb npb => ?_⟩
    have sp := same_new (o := .tup [.int (fr1 t (1 + d5)), .int (fr2 t (1 + d5))]) npb
    have hp := upd_same (H := H5) (a := pb) (o := .tup [.int (fr1 t (1 + d5)), .int (fr2 t (1 + d5))])
    have gb : Okb 110 (fr1 t (1 + d5), fr2 t (1 + d5)) := ⟨fr2_pos nz, Nat.lt_of_le_of_lt (fr1_le nz) (Nat.lt_trans t1.1 (by decide)), Nat.lt_of_le_of_lt (fr2_le nz) (by omega), fr_gcd nz⟩
    have nb0 : fr1 t (1 + d5) ≠ 0 := fun z => t1.2 (by
      have e := fr1_eq (t := t) nz
      rw [z, Int.zero_mul] at e
      exact e.symm)
    have B6 : But st H _ := (((B2.trans b3).trans b4).trans b5).trans (Same.but sp)
    have s6 := s5.same sp
    generalize upd H5 pb (.tup [.int (fr1 t (1 + d5)), .int (fr2 t (1 + d5))]) = H6 at hp B6 s6 ⊢
    generalize hnb : (fr1 t (1 + d5), fr2 t (1 + d5)) = nb at gb
    have hp' : H6 pb = some (.tup [.int nb.1, .int nb.2]) := by rw [← hnb]; exact hp
    have nb0' : nb.1 ≠ 0 := by rw [← hnb]; exact nb0
    clear hp nb0 hnb sp npb b3 b4 b5 s1 s2 s3 s4 s5 sU sU2 hU hU2 b1 b2 B1 B2
    have R6 := R0.but B6 s0
    obtain ⟨pn, g1, da, g3, hs⟩ := id R6
    have kl : kvs.length ≤ 10 := Nat.le_trans da.2.2.1 m10
    have ln : (kvs.map fun p => nmOf p.1).length = kvs.length := List.length_map ..
    refine ⟨_, rfl, r, _, 0, _, rfl, rfl, SqT.of g1, atI_nat (j := 0) rfl, a, kvs, (kvs.map fun p => nmOf p.1), rfl, .inl da.1, keys_nm da, by rw [ln]; omega, fun ys ky perm srt' nky => ?_⟩
    have sk := same_new (o := .lst (ys.map V.str)) nky
    have hky := upd_same (H := H6) (a := ky) (o := .lst (ys.map V.str))
    have yl : ys.length = kvs.length := by rw [perm.length_eq, ln]
    have el : ((ys.map V.str).length : Int) = (ys.length : Int) := by rw [List.length_map]
    have B7 : But st H _ := B6.trans (Same.but sk)
    have s7 := s6.same sk
    have kst := s6.fresh nky
    replace hp' := sk _ _ hp'
    generalize upd H6 ky (.lst (ys.map V.str)) = H7 at hky B7 s7 hp' ⊢
    refine ⟨_, rfl, _, rfl, ky, _, rfl, .inl (SqL.of hky), (ys.length : Int), 1, congrArg V.int el, rfl, st, c, (ys.length : Int) + 1, rfl, by omega, lt8 (by omega), s7, fun H8 at' b8 s8 l8 u8 => ?_⟩
    replace hp' := b8.tup s7 hp'
    replace hky := b8 _ _ kst hky
    have B8 := B7.trans b8
    have R8 := R0.but B8 s0
    clear B7 s7 b8 R6 g1 da g3 B6 s6 sk nky
    obtain ⟨pn, g1, da, g3, _⟩ := id R8
    refine ⟨_, rfl, _, rfl, ky, _, rfl, .inl (SqL.of hky), ?_⟩
    rw [el]
    refine ⟨rfl, _, rfl, ite2 (fun e => ?_) (fun e => ?_)⟩
    · refine ⟨_, rfl, r, _, 0, _, rfl, rfl, SqT.of g1, atI_nat (j := 0) rfl, _, rfl, r, _, 1, _, rfl, rfl, SqT.of g1, atI_nat (j := 1) rfl, _, rfl, by show 3 ≤ sizeLine; decide, fun R nR => ?_⟩
      have sR := same_new (o := .tup [.ref a, .str srt, .ref pb]) nR
      exact q _ R a kvs f nb (B8.trans (Same.but sR)) (s8.same sR) ⟨pb, upd_same, da.same sR, FrT.of (sR _ _ hp'), hs⟩ (fun k => okb20_fg (okf k)) gb
    · have al : at' < (ys.length : Int) := by
        have z : at' ≠ (ys.length : Int) := fun z => e (decide_eq_true (congrArg V.int z))
        omega
      obtain ⟨y, hy, ey⟩ := at_str (xs := ys) l8 al
      refine ⟨_, rfl, r, _, 0, _, rfl, rfl, SqT.of g1, atI_nat (j := 0) rfl, a, kvs, rfl, .inl da.1, fun c2 nc2 => ?_⟩
      have sc := same_new (o := .dK kvs) nc2
      have dc := da.copy nc2
      have c2s := s8.fresh nc2
      have c2k : ky ≠ c2 := ne_of_none hky nc2
      obtain ⟨oy, rv, evv, _⟩ := nm_of_mem da (perm.mem_iff.mp hy)
      refine ⟨_, rfl, _, rfl, _, rfl, _, rfl, ky, _, _, _, rfl, rfl, SqL.of (sc _ _ hky), ey, c2, _, rfl, DPut.k (k := .inr y) dc.1 (small1000 (by omega)), ?_⟩
      have dp := (dc.put (r := pb) (v := nb) oy (sc _ _ hp') (fun _ => nb0')).cut (n := m) (by rw [putK_len evv]; exact da.2.2.1)
      have kp : ∀ b o, (upd H8 c2 (.dK kvs)) b = some o → b ≠ c2 → (upd (upd H8 c2 (.dK kvs)) c2 (.dK (putK kvs (.inr y) (.ref pb)))) b = some o := fun b o e nb => by
        rw [upd_ne nb]
        exact e
      have S9 : Same H8 (upd (upd H8 c2 (.dK kvs)) c2 (.dK (putK kvs (.inr y) (.ref pb)))) := fun b o e => kp b o (sc _ _ e) (ne_of_none e nc2)
      generalize upd (upd H8 c2 (.dK kvs)) c2 (.dK (putK kvs (.inr y) (.ref pb))) = H9 at dp S9 ⊢
      refine ⟨_, rfl, _, rfl, r, _, 1, _, rfl, rfl, SqT.of (S9 _ _ g1), atI_nat (j := 1) rfl, _, rfl, r, _, 2, _, rfl, rfl, SqT.of (S9 _ _ g1), atI_nat (j := 2) rfl, by show 3 ≤ sizeLine; decide, fun R nR => ?_⟩
      have sR := same_new (o := .tup [.ref c2, .str srt, .ref pn]) nR
      refine q _ R c2 _ _ num ((B8.trans (Same.but S9)).trans (Same.but sR)) ((s8.same S9).same sR) ⟨pn, upd_same, dp.same sR, (g3.new S9).new sR, hs⟩ (fun k => ?_) (okb20_fg okn)
      show Okb 110 (if k = .inr y then nb else f k)
      split
      · exact gb
      · exact okb20_fg (okf k)
end
end SS
namespace SS
open PySem PySem.Spec PyProof.Rows L2 TL NumText
def Mw (ws : List Str) : Nat := (ws.map fun z => z.length + 1).sum
theorem join_meas : ∀ ws : List Str, ws ≠ [] → (joinL [32] (ws.map tl)).length + 1 = Mw ws ∧ ((∀ z ∈ ws, 32 ∉ tl z) → (joinL [32] (ws.map tl)).count 32 + 1 = ws.length)
  | [], h => absurd rfl h
  | [a], _ => by
    refine ⟨?_, fun h => ?_⟩
    · show (tl a).length + 1 = (a.length + 1) + 0
      rw [← len_tl]
    · show (tl a).count 32 + 1 = 1
      rw [List.count_eq_zero.mpr (h a List.mem_cons_self)]
  | a :: b :: r, _ => by
    obtain ⟨i1, i2⟩ := join_meas (b :: r) (fun z => by cases z)
    have e : joinL [32] ((a :: b :: r).map tl) = tl a ++ ([32] ++ joinL [32] ((b :: r).map tl)) := rfl
    rw [e]
    refine ⟨?_, fun h => ?_⟩
    · have m : Mw (a :: b :: r) = (a.length + 1) + Mw (b :: r) := rfl
      rw [m, ← i1, List.length_append, List.length_append, ← len_tl]
      show a.length + (1 + _) + 1 = _
      omega
    · have j := i2 fun z hz => h z (List.mem_cons_of_mem _ hz)
      rw [List.count_append, List.count_append, List.count_eq_zero.mpr (h a List.mem_cons_self), List.length_cons, ← j]
      show 0 + (1 + _) + 1 = _
      omega
theorem M_set {a b : Str} : ∀ {ws : List Str} {i : Nat}, ws[i]? = some a → Mw (ws.set i b) + a.length = Mw ws + b.length
  | [], _, h => by cases h
  | x :: r, 0, h => by
    obtain rfl : x = a := Option.some.inj h
    show (b.length + 1) + Mw r + x.length = (x.length + 1) + Mw r + b.length
    omega
  | x :: r, i + 1, h => by
    have z := M_set (b := b) (ws := r) (i := i) h
    show (x.length + 1) + Mw (r.set i b) + a.length = (x.length + 1) + Mw r + b.length
    omega
theorem M_app (u v : List Str) : Mw (u ++ v) = Mw u + Mw v := by
  unfold Mw
  rw [List.map_append, List.sum_append]
theorem M_sub {u v : List Str} (h : u.Sublist v) : Mw u ≤ Mw v := by
  induction h with
  | slnil => exact Nat.le_refl _
  | @cons l1 l2 a _ ih => exact Nat.le_trans ih (Nat.le_add_left _ _)
  | @cons_cons l1 l2 a _ ih => exact Nat.add_le_add_left ih _
theorem M_mem {ws : List Str} {a : Str} (h : a ∈ ws) : a.length + 1 ≤ Mw ws := by
  have z := M_sub (List.singleton_sublist.mpr h)
  exact Nat.le_trans (Nat.le_refl _) z
theorem M_len (ws : List Str) : (ws.map (·.length)).sum + ws.length = Mw ws := by
  induction ws with
  | nil => rfl
  | cons a r ih =>
    show a.length + (r.map (·.length)).sum + (r.length + 1) = (a.length + 1) + Mw r
    omega
theorem ixN_nat {n j : Nat} (h : j < n) : ixN n (j : Int) = some j := by
  unfold ixN
  rw [if_pos (by omega), if_pos (by omega), Int.toNat_natCast]
def smW : List Str := ["+", "-", "is", "most", "above", "0", "1", "-1", "x", "aaaaaaa", "2/4", "", "X"]
theorem smW_ok : ∀ z ∈ smW, z.length ≤ 7 ∧ 32 ∉ tl z := by decide
section
variable {P : Program} {w : World} {K : PySem.W.Frag} {mg : Str → Option Value} {base : Heap}
/-! ### _law_reworded -/
def spRewd : Sp := fun vs H Q _ => ∃ (st c : Addr) (x : Str), vs = [.ref st, .str x] ∧ x.length ≤ 420 ∧ (tl x).count 32 ≤ 30 ∧ StA st c H ∧ ∀ H' (y : Str), But st H H' → StA st c H' → y.length ≤ 2 * x.length + 10 → (tl y).count 32 ≤ (tl x).count 32 + 1 → Q (.str y) H'
theorem scRewd : FnScope ["_law_state", "_law_text", "_law_words", "_law_at", "_law_to", "_law_way", "_law_some"] ["_law_state", "_law_text"] (defScope sRewd) := ⟨rfl, rfl, rfl, by decide +kernel, rfl, by decide +kernel, by decide +kernel⟩
set_option maxHeartbeats 4000000 in
theorem ok_rewd {f : Addr} {fd : FuncData} (F : Fun K "_law_reworded" "_law_reworded" sRewd f fd) (ml : mg "len" = none) (tk : Cl P w K mg base CX0 3 "_law_take" spTake []) : FnOk P w K mg base CX0 4 f fd ["_law_state", "_law_text"] spRewd := by
  refine F.ok scRewd (fun vs H Q E h => ?_) (fun cdv A outer s H vs Q E hr h => ?_)
  · obtain ⟨_, _, _, rfl, _⟩ := h
    rfl
  · obtain ⟨st, c, x, rfl, xl, xc, s0, q⟩ := h
    refine ⟨_, pss_cons (ps_set (i := 2) scRewd.nd rfl (.inl rfl) (pe_split (pv 1) pe_str))
      (pss_cons (ps_set (i := 3) scRewd.nd rfl (.inl rfl) (pc0 tk hr (by decide) (pa_cons (pv 0) (pa_cons (pe_callB call_len_seq (by rfl) ml PySem.boot_len (pa_cons (pv 2) pa_nil)) pa_nil))))
      (pss_cons (ps_set (i := 4) scRewd.nd rfl (.inl rfl) (pc0 tk hr (by decide) (pa_cons (pv 0) (pa_cons (pe_callB call_len_seq (by rfl) ml PySem.boot_len (pa_cons (pv 2) pa_nil)) pa_nil))))
      (pss_cons (ps_set (i := 5) scRewd.nd rfl (.inl rfl) (pc0 tk hr (by decide) (pa_cons (pv 0) (pa_cons pe_int pa_nil))))
      (pss_cons (ps_if (pt_cmpR op_eq (pv 5) pe_int (nomark _)) (pss_one (ps_asg (pe_tup (pa_cons (pe_ix ix_list (pv 2) (pv 4) (fun _ _ => rfl)) (pa_cons (pe_ix ix_list (pv 2) (pv 3) (fun _ _ => rfl)) pa_nil))) (pg_tup rfl (pgs_cons (pg_sub (pv 2) (pv 3) set_list) (pgs_cons (pg_sub (pv 2) (pv 4) set_list) pgs_nil))))) pss_nil)
      (pss_cons (ps_if (pt_cmpR op_eq (pv 5) pe_int (nomark _)) (pss_one (ps_expr (pe_bm PySem.F.plainAttrs_list PySem.F.slot_list_insert PySem.F.type_list_insert mt_insert (pv 2) (pa_cons (pv 4) (pa_cons (pe_ix ix_list (pv 2) (pv 3) (fun _ _ => rfl)) pa_nil))))) pss_nil)
      (pss_cons (ps_if (pt_cmpR op_eq (pv 5) pe_int (nomark _)) (pss_one (ps_expr (pe_bm PySem.F.plainAttrs_list PySem.F.slot_list_pop PySem.F.type_list_pop mt_popAt (pv 2) (pa_cons (pv 3) pa_nil)))) pss_nil)
      (pss_cons (ps_if (pt_cmpR op_eq (pv 5) pe_int (nomark _)) (pss_cons (ps_set (i := 6) scRewd.nd rfl (.inl rfl) (pe_tup (pa_cons pe_str (pa_cons pe_str (pa_cons pe_str (pa_cons pe_str (pa_cons pe_str (pa_cons pe_str (pa_cons pe_str (pa_cons pe_str (pa_cons pe_str (pa_cons pe_str (pa_cons pe_str (pa_cons pe_str (pa_cons pe_str pa_nil)))))))))))))))
        (pss_one (ps_asg (pe_ix ix_tup (pv 6) (pc0 tk hr (by decide) (pa_cons (pv 0) (pa_cons pe_int pa_nil))) (fun _ _ => rfl)) (pg_sub (pv 2) (pv 3) set_list)))) pss_nil)
      (pss_one (ps_ret (pe_m1 PySem.F.slot_str_join PySem.F.type_str_join mt_join pe_str (pv 2))))))))))), ?_⟩
    have e1 : ((" " : Str)).length = 1 := by decide
    refine ⟨_, rfl, ⟨_, rfl⟩, x, " ", rfl, rfl, by decide, sz5 (by omega), fun L nL => ?_⟩
    have es := split_tl x
    obtain ⟨jj, jm, jn⟩ := join_spl _ (tl x) (Nat.le_refl _)
    have wne : Txt.split x " " ≠ [] := fun z => by
      rw [z] at es
      exact spl32_ne _ es.symm
    have no32 : ∀ z ∈ Txt.split x " ", 32 ∉ tl z := fun z hz => (jm (tl z) (by rw [← es]; exact List.mem_map.mpr ⟨z, hz, rfl⟩)).1
    have mw : Mw (Txt.split x " ") = x.length + 1 := by
      rw [← (join_meas _ wne).1, es, jj, ← len_tl]
    have wl : (Txt.split x " ").length = (tl x).count 32 + 1 := by
      rw [← jn, ← es, List.length_map]
    generalize Txt.split x " " = ws at es wne no32 mw wl ⊢
    clear es jj jm jn
    have s1 := same_new (o := .lst (ws.map V.str)) nL
    have hL := upd_same (H := H) (a := L) (o := .lst (ws.map V.str))
    have Ls := s0.fresh nL
    have Lc := s0.fresh2 nL
    have B1 : But st H _ := Same.but s1
    have t1 := s0.same s1
    generalize upd H L (.lst (ws.map V.str)) = H1 at s1 hL B1 t1 ⊢
    have el : ((ws.map V.str).length : Int) = (ws.length : Int) := by rw [List.length_map]
    have wp : 1 ≤ ws.length := List.length_pos_iff.mpr wne
    refine ⟨_, rfl, _, rfl, L, _, rfl, .inl (SqL.of hL), st, c, (ws.length : Int), congrArg (fun z => [V.ref st, V.int z]) el, by omega, lt8 (by omega), t1, fun H2 d3 b2 s2 l2 u2 => ?_⟩
    have hL2 := b2 _ _ Ls hL
    refine ⟨_, rfl, _, rfl, L, _, rfl, .inl (SqL.of hL2), st, c, (ws.length : Int), congrArg (fun z => [V.ref st, V.int z]) el, by omega, lt8 (by omega), s2, fun H3 d4 b3 s3 l3 u3 => ?_⟩
    have hL3 := b3 _ _ Ls hL2
    refine ⟨_, rfl, st, c, 4, rfl, by decide, lt8 (by decide), s3, fun H4 d5 b4 s4 l4 u4 => ?_⟩
    have hL4 := b4 _ _ Ls hL3
    have B4 := ((B1.trans b2).trans b3).trans b4
    clear hL hL2 hL3 b2 b3 b4 s2 s3 B1 t1
    obtain ⟨i, rfl⟩ : ∃ i : Nat, d3 = (i : Int) := ⟨d3.toNat, by omega⟩
    obtain ⟨j, rfl⟩ : ∃ j : Nat, d4 = (j : Int) := ⟨d4.toNat, by omega⟩
    have il : i < ws.length := by omega
    have jl : j < ws.length := by omega
    obtain ⟨a, ha⟩ : ∃ a, ws[i]? = some a := ⟨_, List.getElem?_eq_getElem il⟩
    obtain ⟨b, hb⟩ : ∃ b, ws[j]? = some b := ⟨_, List.getElem?_eq_getElem jl⟩
    have am := List.mem_of_getElem? ha
    have bm := List.mem_of_getElem? hb
    have aa : atI (ws.map V.str) (i : Int) = some (.str a) := atI_nat (by rw [List.getElem?_map, ha]; rfl)
    have ab : atI (ws.map V.str) (j : Int) = some (.str b) := atI_nat (by rw [List.getElem?_map, hb]; rfl)
    have ma := M_mem am
    have ix : ∀ (us : List Str) (k : Nat), us.length = ws.length → k < ws.length → ixN (us.map V.str).length (k : Int) = some k := fun us k e h => ixN_nat (by rw [List.length_map, e]; exact h)
    have keepB : ∀ {H' : Hp} {o : HO}, But st H H' → But st H (upd H' L o) := fun B b o nb e => by
      rw [upd_ne (fun z => by rw [z, nL] at e; cases e)]
      exact B b o nb e
    have fin : ∀ us : List Str, Mw us ≤ 2 * Mw ws + 8 → us.length ≤ ws.length + 1 → (∀ z ∈ us, 32 ∉ tl z) → ((us.map (·.length)).sum + us.length * (" " : Str).length ≤ 16777216 ∧ (Txt.join " " us).length ≤ 2 * x.length + 10 ∧ (tl (Txt.join " " us)).count 32 ≤ (tl x).count 32 + 1) := fun us h1 h2 h3 => by
      have z := M_len us
      refine ⟨by rw [e1]; omega, ?_⟩
      rw [len_tl, join_eq, tl_join, tl_blank]
      by_cases c : us = []
      · rw [c]
        exact ⟨Nat.zero_le _, Nat.zero_le _⟩
      · obtain ⟨k1, k2⟩ := join_meas us c
        have k3 := k2 h3
        exact ⟨by omega, by omega⟩
    have skip : ∀ {p q : Int}, p ≠ q → ¬ (decide (V.int p = V.int q) = true) := fun h z => h (V.int.inj (of_decide_eq_true z))
    rcases (show d5 = 0 ∨ d5 = 1 ∨ d5 = 2 ∨ d5 = 3 by omega) with e | e | e | e
    · subst e
      refine ⟨_, rfl, rfl, _, rfl, ite2 (fun _ => ?_) (fun z => absurd (decide_eq_true rfl) z)⟩
      refine ⟨_, rfl, _, rfl, L, _, _, _, rfl, rfl, SqL.of hL4, ab, _, rfl, _, rfl, L, _, _, _, rfl, rfl, SqL.of hL4, aa, small2, fun T nT => ?_⟩
      have sT := same_new (o := .tup [.str b, .str a]) nT
      have hT := upd_same (H := H4) (a := T) (o := .tup [.str b, .str a])
      have hL5 := sT _ _ hL4
      have B5 := B4.trans (Same.but sT)
      have s5 := s4.same sT
      generalize upd H4 T (.tup [.str b, .str a]) = H5 at sT hT hL5 B5 s5 ⊢
      have m1 : (ws.map V.str).set i (.str b) = (ws.set i b).map V.str := (List.map_set ..).symm
      have m2 : ((ws.set i b).map V.str).set j (.str a) = ((ws.set i b).set j a).map V.str := (List.map_set ..).symm
      refine ⟨T, _, rfl, SqT.of hT, rfl, _, _, rfl, _, rfl, _, rfl, L, _, _, i, rfl, rfl, hL5, ix ws i rfl il, ?_⟩
      rw [m1]
      refine ⟨_, _, rfl, _, rfl, _, rfl, L, _, _, j, rfl, rfl, upd_same, ix _ j (List.length_set) jl, ?_⟩
      rw [m2]
      have hj2 : (ws.set i b)[j]? = some b := by
        rw [List.getElem?_set]
        split
        · rename_i e
          first
            | rfl
            | rw [if_pos (by omega)]
        · exact hb
      have q1 := M_set (b := b) ha
      have q2 := M_set (b := a) hj2
      obtain ⟨f1, f2, f3⟩ := fin ((ws.set i b).set j a) (by omega) (by rw [List.length_set, List.length_set]; omega) (fun z hz => by
        rcases List.mem_or_eq_of_mem_set hz with z1 | z1
        · rcases List.mem_or_eq_of_mem_set z1 with z2 | z2
          · exact no32 z z2
          · rw [z2]
            exact no32 b bm
        · rw [z1]
          exact no32 a am)
      refine ⟨rfl, ?_⟩
      refine ⟨_, rfl, rfl, _, rfl, ite2 (fun z => absurd z (skip (by decide))) (fun _ => ?_)⟩
      refine ⟨_, rfl, rfl, _, rfl, ite2 (fun z => absurd z (skip (by decide))) (fun _ => ?_)⟩
      refine ⟨_, rfl, rfl, _, rfl, ite2 (fun z => absurd z (skip (by decide))) (fun _ => ?_)⟩
      exact ⟨⟨_, rfl⟩, _, rfl, _, L, _, rfl, rfl, .inl (SqL.of upd_same), f1, q _ _ (keepB (keepB B5)) ((s5.other Ls Lc).other Ls Lc) f2 f3⟩
    · subst e
      refine ⟨_, rfl, rfl, _, rfl, ite2 (fun z => absurd z (skip (by decide))) (fun _ => ?_)⟩
      refine ⟨_, rfl, rfl, _, rfl, ite2 (fun _ => ?_) (fun z => absurd (decide_eq_true rfl) z)⟩
      refine ⟨.ref L, rfl, .inl ⟨rfl, _, SqL.of hL4⟩, _, rfl, _, rfl, _, rfl, L, _, _, _, rfl, rfl, SqL.of hL4, aa, L, _, (j : Int), .str a, rfl, rfl, hL4, ?_, by omega, by omega, ?_⟩
      · rw [List.length_map]
        exact small1000 (by omega)
      have m1 : (ws.map V.str).take ((j : Int)).toNat ++ [.str a] ++ (ws.map V.str).drop ((j : Int)).toNat = (ws.take j ++ [a] ++ ws.drop j).map V.str := by
        rw [Int.toNat_natCast, List.map_append, List.map_append, List.map_take, List.map_drop]
        rfl
      rw [m1]
      have q1 : Mw (ws.take j ++ [a] ++ ws.drop j) = Mw ws + (a.length + 1) := by
        have z := M_app (ws.take j) (ws.drop j)
        rw [List.take_append_drop] at z
        rw [M_app, M_app, z]
        show Mw (ws.take j) + ((a.length + 1) + 0) + Mw (ws.drop j) = _
        omega
      have ql : (ws.take j ++ [a] ++ ws.drop j).length = ws.length + 1 := by
        rw [List.length_append, List.length_append, List.length_take, List.length_drop, List.length_singleton]
        omega
      obtain ⟨f1, f2, f3⟩ := fin (ws.take j ++ [a] ++ ws.drop j) (by omega) (by omega) (fun z hz => by
        rcases List.mem_append.mp hz with z1 | z1
        · rcases List.mem_append.mp z1 with z2 | z2
          · exact no32 z (List.mem_of_mem_take z2)
          · rw [List.mem_singleton.mp z2]
            exact no32 a am
        · exact no32 z (List.mem_of_mem_drop z1))
      refine ⟨_, rfl, rfl, _, rfl, ite2 (fun z => absurd z (skip (by decide))) (fun _ => ?_)⟩
      refine ⟨_, rfl, rfl, _, rfl, ite2 (fun z => absurd z (skip (by decide))) (fun _ => ?_)⟩
      exact ⟨⟨_, rfl⟩, _, rfl, _, L, _, rfl, rfl, .inl (SqL.of upd_same), f1, q _ _ (keepB B4) (s4.other Ls Lc) f2 f3⟩
    · subst e
      refine ⟨_, rfl, rfl, _, rfl, ite2 (fun z => absurd z (skip (by decide))) (fun _ => ?_)⟩
      refine ⟨_, rfl, rfl, _, rfl, ite2 (fun z => absurd z (skip (by decide))) (fun _ => ?_)⟩
      refine ⟨_, rfl, rfl, _, rfl, ite2 (fun _ => ?_) (fun z => absurd (decide_eq_true rfl) z)⟩
      refine ⟨.ref L, rfl, .inl ⟨rfl, _, SqL.of hL4⟩, _, rfl, L, _, (i : Int), i, .str a, rfl, rfl, hL4, by omega, by omega, (ixN_seq (ix ws i rfl il)).1, by rw [List.getElem?_map, ha]; rfl, ?_⟩
      have m1 : (ws.map V.str).eraseIdx i = (ws.eraseIdx i).map V.str := by
        rw [List.eraseIdx_eq_take_drop_succ, List.eraseIdx_eq_take_drop_succ, List.map_append, List.map_take, List.map_drop]
      rw [m1]
      have sb := List.eraseIdx_sublist ws i
      obtain ⟨f1, f2, f3⟩ := fin (ws.eraseIdx i) (by have := M_sub sb; omega) (by have := sb.length_le; omega) (fun z hz => no32 z (sb.subset hz))
      refine ⟨_, rfl, rfl, _, rfl, ite2 (fun z => absurd z (skip (by decide))) (fun _ => ?_)⟩
      exact ⟨⟨_, rfl⟩, _, rfl, _, L, _, rfl, rfl, .inl (SqL.of upd_same), f1, q _ _ (keepB B4) (s4.other Ls Lc) f2 f3⟩
    · subst e
      refine ⟨_, rfl, rfl, _, rfl, ite2 (fun z => absurd z (skip (by decide))) (fun _ => ?_)⟩
      refine ⟨_, rfl, rfl, _, rfl, ite2 (fun z => absurd z (skip (by decide))) (fun _ => ?_)⟩
      refine ⟨_, rfl, rfl, _, rfl, ite2 (fun z => absurd z (skip (by decide))) (fun _ => ?_)⟩
      refine ⟨_, rfl, rfl, _, rfl, ite2 (fun _ => ?_) (fun z => absurd (decide_eq_true rfl) z)⟩
      refine ⟨by show 13 ≤ sizeLine; decide, fun T nT => ?_⟩
      have sT := same_new (o := .tup (smW.map V.str)) nT
      have hT := upd_same (H := H4) (a := T) (o := .tup (smW.map V.str))
      have eS : [V.str "+", V.str "-", V.str "is", V.str "most", V.str "above", V.str "0", V.str "1", V.str "-1", V.str "x", V.str "aaaaaaa", V.str "2/4", V.str "", V.str "X"] = smW.map V.str := rfl
      rw [eS]
      have hL5 := sT _ _ hL4
      have B5 := B4.trans (Same.but sT)
      have s5 := s4.same sT
      generalize upd H4 T (.tup (smW.map V.str)) = H5 at sT hT hL5 B5 s5 ⊢
      refine ⟨_, rfl, _, rfl, st, c, 13, rfl, by decide, lt8 (by decide), s5, fun H6 d6 b6 s6 l6 u6 => ?_⟩
      have hL6 := b6 _ _ Ls hL5
      obtain ⟨v, hv, ev⟩ := at_str (xs := smW) l6 u6
      obtain ⟨v1, v2⟩ := smW_ok v hv
      refine ⟨T, _, d6, _, rfl, rfl, SqT.of (b6.tup s5 hT), ev, _, rfl, _, rfl, L, _, _, i, rfl, rfl, hL6, ix ws i rfl il, ?_⟩
      have m1 : (ws.map V.str).set i (.str v) = (ws.set i v).map V.str := (List.map_set ..).symm
      rw [m1]
      have q1 := M_set (b := v) ha
      obtain ⟨f1, f2, f3⟩ := fin (ws.set i v) (by omega) (by rw [List.length_set]; omega) (fun z hz => by
        rcases List.mem_or_eq_of_mem_set hz with z1 | z1
        · exact no32 z z1
        · rw [z1]
          exact v2)
      exact ⟨⟨_, rfl⟩, _, rfl, _, L, _, rfl, rfl, .inl (SqL.of upd_same), f1, q _ _ (keepB (B5.trans b6)) (s6.other Ls Lc) f2 f3⟩
end
end SS
namespace SS
open PySem PySem.Spec PyProof.Rows L2 TL NumText
theorem big34 : (2 : Nat) ^ 110 < 10 ^ 34 := by decide +kernel
theorem zL_len34 {n : Int} (h : n.natAbs < 2 ^ 110) : (zL n).length ≤ 35 := by
  have z := numL_len (n := n.natAbs) (k := 34) (by decide) (Nat.lt_trans h big34)
  unfold zL
  split
  · rw [List.length_cons]
    omega
  · omega
theorem fL_len34 {N : Int × Int} (h : Okb 110 N) : (fL N).length ≤ 71 := by
  have a := zL_len34 h.2.1
  have b := zL_len34 h.2.2.1
  unfold fL
  split
  · omega
  · rw [List.length_append, List.length_cons]
    omega
theorem okb_sz {N : Int × Int} {B : Nat} (h : Okb B N) : Okb B (szN N) := ⟨h.1, by show ((N.1.natAbs : Int)).natAbs < _; rw [Int.natAbs_natCast]; exact h.2.1, h.2.2.1, by show Int.gcd (N.1.natAbs : Int) N.2 = 1; unfold Int.gcd; rw [Int.natAbs_natCast]; exact h.2.2.2⟩
theorem nm_no32 {x : Str} (h : NmOk x) : 32 ∉ tl x := fun z => by
  have y := h.2.2 32 z
  omega
theorem trm_m {x : Str} {N : Int × Int} (h : NmOk x) (g : Okb 110 N) : (trmL x N).length ≤ 78 ∧ (trmL x N).count 32 ≤ 1 := by
  have a := tl_nm h
  have b := fL_len34 (okb_sz g)
  have c := List.count_eq_zero.mpr (nm_no32 h)
  have d := List.count_eq_zero.mpr (fL_no32 (szN N))
  unfold trmL
  split
  · exact ⟨by omega, by omega⟩
  · rw [List.length_append, List.length_cons, List.count_append, List.count_cons_self, c, d]
    exact ⟨by omega, by decide⟩
theorem rest_m {f : Key → Int × Int} (g : ∀ k, Okb 110 (f k)) : ∀ (ys : List Str), (∀ y ∈ ys, NmOk y) → (restL f ys).length ≤ 81 * ys.length ∧ (restL f ys).count 32 ≤ 3 * ys.length
  | [], _ => ⟨Nat.le_refl _, Nat.le_refl _⟩
  | y :: r, h => by
    have i := rest_m g r fun z hz => h z (List.mem_cons_of_mem _ hz)
    have t := trm_m (h y List.mem_cons_self) (g (.inr y))
    have e : restL f (y :: r) = (32 :: sgC (f (.inr y)) :: 32 :: trmL y (f (.inr y))) ++ restL f r := by
      unfold restL
      rw [List.flatMap_cons]
    have sc : ¬ (sgC (f (.inr y)) = 32) := by
      unfold sgC
      split <;> decide
    rw [e, List.length_append, List.length_cons, List.length_cons, List.length_cons, List.length_cons, List.count_append, List.count_cons_self, List.count_cons_of_ne sc, List.count_cons_self]
    exact ⟨by omega, by omega⟩
theorem sum_m {f : Key → Int × Int} (g : ∀ k, Okb 110 (f k)) {ys : List Str} (h : ∀ y ∈ ys, NmOk y) : (sumL f ys).length ≤ 81 * ys.length + 1 ∧ (sumL f ys).count 32 ≤ 3 * ys.length := by
  cases ys with
  | nil => exact ⟨Nat.le_refl _, Nat.le_refl _⟩
  | cons y r =>
    have i := rest_m g r fun z hz => h z (List.mem_cons_of_mem _ hz)
    have t := trm_m (h y List.mem_cons_self) (g (.inr y))
    show (headL f y ++ restL f r).length ≤ _ ∧ (headL f y ++ restL f r).count 32 ≤ _
    unfold headL
    rw [List.length_append, List.length_append, List.count_append, List.count_append, List.length_cons]
    split
    · exact ⟨by show 1 + _ + _ ≤ _; omega, by show 0 + _ + _ ≤ _; omega⟩
    · exact ⟨by show 0 + _ + _ ≤ _; omega, by show 0 + _ + _ ≤ _; omega⟩
theorem row_m {f : Key → Int × Int} {ys : List Str} {srt : Str} {num : Int × Int} (g : ∀ k, Okb 110 (f k)) (h : ∀ y ∈ ys, NmOk y) (hs : srt ∈ sorts) (gn : Okb 110 num) : (rowL f ys srt num).length ≤ 81 * ys.length + 79 ∧ (rowL f ys srt num).count 32 ≤ 3 * ys.length + 2 := by
  have a := sum_m g h
  have b := sort_len hs
  rw [len_tl] at b
  have c := fL_len34 gn
  have d := List.count_eq_zero.mpr (sort_no32 hs)
  have e := List.count_eq_zero.mpr (fL_no32 num)
  unfold rowL
  rw [List.length_append, List.length_cons, List.length_append, List.length_cons, List.count_append, List.count_cons_self, List.count_append, List.count_cons_self, d, e]
  exact ⟨by omega, by omega⟩
section
variable {P : Program} {w : World} {K : PySem.W.Frag} {mg : Str → Option Value} {base : Heap}
def S1 (H : Hp) (x : Str) (v : V) : Prop := (outS x = none ∧ v = .non) ∨ ∃ ps c ks, outS x = some ps ∧ v = .ref c ∧ DM True 18 H c ks (fOf ps)
def S2 (K : PySem.W.Frag) (H : Hp) (x : Str) (v : V) : Prop := (outR x = none ∧ v = .non) ∨ ∃ ps srt num r a ks, outR x = some (ps, srt, num) ∧ v = .ref r ∧ RowT K 18 H r a ks (fOf ps) srt num
theorem S1.same {H H' : Hp} {x : Str} {v : V} (h : S1 H x v) (s : Same H H') : S1 H' x v := by
  rcases h with h | ⟨ps, c, ks, e, e2, d⟩
  · exact .inl h
  · exact .inr ⟨ps, c, ks, e, e2, d.same s⟩
theorem S2.same {H H' : Hp} {x : Str} {v : V} (h : S2 K H x v) (s : Same H H') : S2 K H' x v := by
  rcases h with h | ⟨ps, srt, num, r, a, ks, e, e2, d⟩
  · exact .inl h
  · exact .inr ⟨ps, srt, num, r, a, ks, e, e2, d.same s⟩
theorem S1.sameT {T : List Addr} {H H' : Hp} {x : Str} {v : V} (h : S1 H x v) (s : SameT T H H') : S1 H' x v := by
  rcases h with h | ⟨ps, c, ks, e, e2, d⟩
  · exact .inl h
  · exact .inr ⟨ps, c, ks, e, e2, d.sameT s⟩
theorem S2.sameT {T : List Addr} {H H' : Hp} {x : Str} {v : V} (h : S2 K H x v) (s : SameT T H H') : S2 K H' x v := by
  rcases h with h | ⟨ps, srt, num, r, a, ks, e, e2, d⟩
  · exact .inl h
  · exact .inr ⟨ps, srt, num, r, a, ks, e, e2, d.sameT s⟩
theorem use_ws {Q : VK} {E : XK} {x : Str} {H : Hp} (h1 : x.length ≤ 890) (h2 : (tl x).count 32 ≤ 35) (q : ∀ v H', Same H H' → S1 H' x v → Q v H') : spRdWs [.str x] H Q E :=
  ⟨x, rfl, h1, h2, fun e H' s => q _ _ s (.inl ⟨e, rfl⟩), fun ps e H' c ks s _ d => q _ _ s (.inr ⟨ps, c, ks, e, rfl, d⟩)⟩
theorem use_td {Q : VK} {E : XK} {x : Str} {H : Hp} (h1 : x.length ≤ 890) (h2 : (tl x).count 32 ≤ 35) (q : ∀ v H', Same H H' → S2 K H' x v → Q v H') : spRdTd K [.str x] H Q E :=
  ⟨x, rfl, h1, h2, fun e H' s => q _ _ s (.inl ⟨e, rfl⟩), fun ps srt num e H' r a ks s _ d => q _ _ s (.inr ⟨ps, srt, num, r, a, ks, e, rfl, d⟩)⟩
/-- what is due, and what is answered, are alike -/
theorem use_ak {Q : VK} {E : XK} {T : List Addr} {b : Bool} {x : Str} {H : Hp} {v : V} {D : Addr} (h1 : x.length ≤ 890) (h2 : (tl x).count 32 ≤ 35) (ht : Tabs T H) (hv : (b = false ∧ S1 H x v) ∨ (b = true ∧ S2 K H x v))
    (hD : (v = .non ∧ H D = some (.tup [.str "refused", .str "NoText"])) ∨ (v ≠ .non ∧ H D = some (.tup [.str "told", v])))
    (q : ∀ H' t, SameT T H H' → rNeXT K (.ref t) (.ref D) H' (fun _ H'' => H'' = H') → Q (.ref t) H') : spAsked K T [.int (if b = true then 1 else 0), .str x] H Q E := by
  refine ⟨b, x, rfl, h1, h2, ht, fun hn H' t s e => ?_, fun ps eb eo H' t c ks s e d => ?_, fun ps srt num eb eo H' t r a ks s e R => ?_⟩
  · refine q _ _ s ?_
    have en : v = .non := by
      rcases hn with ⟨e1, e2⟩ | ⟨e1, e2⟩ <;> rcases hv with ⟨e3, e4⟩ | ⟨e3, e4⟩
      · rcases e4 with e4 | ⟨_, _, _, e4, _⟩
        · exact e4.2
        · rw [e2] at e4
          cases e4
      · rw [e1] at e3
        cases e3
      · rw [e1] at e3
        cases e3
      · rcases e4 with e4 | ⟨_, _, _, _, _, _, e4, _⟩
        · exact e4.2
        · rw [e2] at e4
          cases e4
    have hD' := (hD.resolve_right fun z => z.1 en).2
    exact ⟨4, t, D, _, _, by decide, rfl, rfl, SqT.of e, SqT.of (s.ext _ _ hD' (fun ps z => by cases z)), .cons (xv_str 3 _) (.cons (xv_str 3 _) .nil), rfl⟩
  · refine q _ _ s ?_
    rcases hv with ⟨_, e4⟩ | ⟨e3, _⟩
    · rcases e4 with ⟨e4, _⟩ | ⟨ps', c', ks', e4, e5, d'⟩
      · rw [eo] at e4
        cases e4
      · obtain rfl : ps = ps' := by
          rw [eo] at e4
          exact Option.some.inj e4
        have hD' := (hD.resolve_left fun z => by rw [e5] at z; cases z.1).2
        rw [e5] at hD'
        exact ⟨4, t, D, _, _, by decide, rfl, rfl, SqT.of e, SqT.of (s.ext _ _ hD' (fun ps z => by cases z)), .cons (xv_str 3 _) (.cons (.inr (.inr (xr_dm 1 d (d'.sameT s)))) .nil), rfl⟩
    · rw [eb] at e3
      cases e3
  · refine q _ _ s ?_
    rcases hv with ⟨e3, _⟩ | ⟨_, e4⟩
    · rw [eb] at e3
      cases e3
    · rcases e4 with ⟨e4, _⟩ | ⟨ps', srt', num', r', a', ks', e4, e5, R'⟩
      · rw [eo] at e4
        cases e4
      · rw [eo] at e4
        cases e4
        have hD' := (hD.resolve_left fun z => by rw [e5] at z; cases z.1).2
        rw [e5] at hD'
        exact ⟨4, t, D, _, _, by decide, rfl, rfl, SqT.of e, SqT.of (s.ext _ _ hD' (fun ps z => by cases z)), .cons (xv_str 3 _) (.cons (.inr (.inr (xr_row 0 R (R'.sameT s)))) .nil), rfl⟩
end
end SS
namespace SS
open PySem PySem.Spec PyProof.Rows L2 TL NumText
section
variable {P : Program} {w : World} {K : PySem.W.Frag} {mg : Str → Option Value} {base : Heap}
def spLaw (K : PySem.W.Frag) (T : List Addr) : Sp := fun vs H Q _ => ∃ (a : Addr) (ns : List Int), vs = [.ref a] ∧ SqL K H a (ns.map V.int) ∧ Tabs T H ∧ ∀ H', Q (.bl true) H'
theorem scLaw : FnScope ["_law_script", "_law_state", "_law_turn", "_law_row", "_law_way", "_law_text", "_law_spoil", "_law_k", "_law_asked_here", "_law_told", "_law_due"] ["_law_script"] (defScope sLaw) := ⟨rfl, rfl, rfl, by decide +kernel, rfl, by decide +kernel, by decide +kernel⟩
theorem StA.sameT {st c : Addr} {H H' : Hp} {T : List Addr} (h : StA st c H) (s : SameT T H H') : StA st c H' := by
  obtain ⟨i, n, f, xs, h1, h2, h3, h4⟩ := h
  exact ⟨i, n, f, xs, s.ext _ _ h1 (fun ps z => by cases z), s.ext _ _ h2 (fun ps z => by cases z), h3, h4⟩
theorem neXT_k {x y : V} {H : Hp} {Q : VK} (h : rNeXT K x y H (fun _ H'' => H'' = H)) (q : Q (.bl false) H) : rNeXT K x y H Q := by
  obtain ⟨n, p, q', xs, ys, h1, h2, h3, h4, h5, h6, _⟩ := h
  exact ⟨n, p, q', xs, ys, h1, h2, h3, h4, h5, h6, q⟩
set_option maxHeartbeats 8000000 in
theorem ok_law {f' : Addr} {fd : FuncData} {T : List Addr} (F : Fun K "law" "law" sLaw f' fd) (mr : mg "range" = none)
    (fs : Cl P w K mg base CX0 1 "_law_fresh" (spFresh K) []) (nn : Cl P w K mg base CX0 5 "_law_names" spNames []) (tk : Cl P w K mg base CX0 3 "_law_take" spTake []) (ar : Cl P w K mg base CX0 6 "_law_any_row" (spAnyRow K) []) (gr : Cl P w K mg base CX0 4 "_law_with_great" (spGreat K) [])
    (ls : Cl P w K mg base CX0 2 "_law_sum_text" spSmx []) (lr : Cl P w K mg base CX0 3 "_law_row_text" (spRwx K) []) (rw' : Cl P w K mg base CX0 4 "_law_reworded" spRewd []) (so : Cl P w K mg base CX0 5 "_law_spoilt" spSpoilt [])
    (ws : Cl P w K mg base CX0 4 "_law_read_words" spRdWs []) (td : Cl P w K mg base CX0 5 "_law_read_told" (spRdTd K) []) (ak : Cl P w K mg base CX0 8 "_law_asked" (spAsked K T) []) : FnOk P w K mg base CX0 9 f' fd ["_law_script"] (spLaw K T) := by
  refine F.ok scLaw (fun vs H Q E h => ?_) (fun cdv A outer s H vs Q E hr h => ?_)
  · obtain ⟨_, _, rfl, _⟩ := h
    rfl
  · obtain ⟨a0, ns, rfl, hS, hT, q⟩ := h
    refine ⟨_, pss_cons (ps_set (i := 1) scLaw.nd rfl (.inl rfl) (pc0 fs hr (by decide) (pa_cons (pv 0) pa_nil)))
      (pss_cons (ps_for PassesOwn.never rfl (pi_range1 rfl mr (pa_cons pe_int pa_nil)) (pg_name (i := 2) scLaw.nd rfl (.inl rfl))
        (pss_cons (ps_set (i := 3) scLaw.nd rfl (.inl rfl) (pc0 ar hr (by decide) (pa_cons (pv 1) (pa_cons (pc0 nn hr (by decide) (pa_cons (pv 1) (pa_cons (pc0 tk hr (by decide) (pa_cons (pv 1) (pa_cons pe_int pa_nil))) pa_nil))) pa_nil))))
        (pss_cons (ps_if (pt_cmpR op_eq (pc0 tk hr (by decide) (pa_cons (pv 1) (pa_cons pe_int pa_nil))) pe_int (nomark _)) (pss_one (ps_set (i := 3) scLaw.nd rfl (.inl rfl) (pc0 gr hr (by decide) (pa_cons (pv 1) (pa_cons (pv 3) pa_nil))))) pss_nil)
        (pss_cons (ps_set (i := 4) scLaw.nd rfl (.inl rfl) (pc0 tk hr (by decide) (pa_cons (pv 1) (pa_cons pe_int pa_nil))))
        (pss_cons (ps_set (i := 5) scLaw.nd rfl (.inl rfl) (pe_ix ix_tup (pe_tup (pa_cons (pc0 ls hr (by decide) (pa_cons (pe_ix ix_tup (pv 3) pe_int (fun _ _ => rfl)) pa_nil)) (pa_cons (pc0 lr hr (by decide) (pa_cons (pv 3) pa_nil)) pa_nil))) (pv 4) (fun _ _ => rfl)))
        (pss_cons (ps_set (i := 6) scLaw.nd rfl (.inl rfl) (pc0 tk hr (by decide) (pa_cons (pv 1) (pa_cons pe_int pa_nil))))
        (pss_cons (ps_if (pt_cmpR op_in_seq (pv 6) (pe_tup (pa_cons pe_int (pa_cons pe_int pa_nil))) rfl) (pss_one (ps_set (i := 5) scLaw.nd rfl (.inl rfl) (pc0 rw' hr (by decide) (pa_cons (pv 1) (pa_cons (pv 5) pa_nil))))) pss_nil)
        (pss_cons (ps_for PassesOwn.never rfl (pi_range1 rfl mr (pa_cons (pe_ix ix_tup (pe_tup (pa_cons pe_int (pa_cons pe_int (pa_cons pe_int (pa_cons pe_int (pa_cons pe_int (pa_cons pe_int pa_nil))))))) (pv 6) (fun _ _ => rfl)) pa_nil)) (pg_name (i := 7) scLaw.nd rfl (.inl rfl))
          (pss_one (ps_set (i := 5) scLaw.nd rfl (.inl rfl) (pc0 so hr (by decide) (pa_cons (pv 1) (pa_cons (pv 5) pa_nil))))))
        (pss_one (ps_for PassesOwn.never rfl (pi_tup (pe_tup (pa_cons (pv 4) (pa_cons (pe_op op_sub pe_int (pv 4)) (pa_cons (pv 4) pa_nil))))) (pg_name (i := 8) scLaw.nd rfl (.inl rfl))
          (pss_cons (ps_set (i := 9) scLaw.nd rfl (.inl rfl) (pe_ix ix_tup (pe_tup (pa_cons (pc0 ws hr (by decide) (pa_cons (pv 5) pa_nil)) (pa_cons (pc0 td hr (by decide) (pa_cons (pv 5) pa_nil)) pa_nil))) (pv 8) (fun _ _ => rfl)))
          (pss_cons (ps_set (i := 10) scLaw.nd rfl (.inl rfl) (pe_tup (pa_cons pe_str (pa_cons (pv 9) pa_nil))))
          (pss_cons (ps_if (pt_cmpR op_isN (pv 9) pe_non (nomark _)) (pss_one (ps_set (i := 10) scLaw.nd rfl (.inl rfl) (pe_tup (pa_cons pe_str (pa_cons pe_str pa_nil))))) pss_nil)
          (pss_one (ps_if (pt_cmpR (op_neXT hr.units) (pc0 ak hr (by decide) (pa_cons (pv 8) (pa_cons (pv 5) pa_nil))) (pv 10) (nomark _)) (pss_one (ps_ret pe_bl)) pss_nil)))))))))))))))
      (pss_one (ps_ret pe_bl))), ?_⟩
    refine ⟨_, rfl, a0, ns, rfl, hS, fun H1 st c s1 ns1 nc1 sa1 => ?_⟩
    refine ⟨6, rfl, by decide, by decide, for_range (n := 6) (fun i σ H' => ∃ (y2 y3 y4 y5 y6 y7 y8 y9 y10 : Option V), σ = [some (.ref a0), some (.ref st), y2, y3, y4, y5, y6, y7, y8, y9, y10] ∧ StA st c H' ∧ Tabs T H')
      ⟨none, none, none, none, none, none, none, none, none, rfl, sa1, hT.same s1⟩ ?_ (fun _ H' _ => q H')⟩
    clear sa1 s1 ns1 nc1 hS hT
    rintro i σ H1 hi ⟨y2, y3, y4, y5, y6, y7, y8, y9, y10, rfl, s1, t1⟩
    refine ⟨_, rfl, _, rfl, _, rfl, st, c, 5, rfl, by decide, lt8 (by decide), s1, fun H2 d2 b2 s2 l2 u2 => ?_⟩
    replace t1 := t1.but b2 s1
    refine ⟨st, c, d2, rfl, l2, by omega, s2, fun H3 u xs b3 s3 nu hu3 hlen hx => ?_⟩
    replace t1 := t1.but b3 s2
    refine ⟨st, c, u, xs, rfl, s3, hu3, by omega, hx, fun H4 r a kvs f srt num b4 s4 na R4 okf okn => ?_⟩
    replace t1 := t1.but b4 s3
    have R4' := R4.mono (m' := 4) (by omega)
    refine' mid (C := _) (Inv := fun σ H' => ∃ (y2 y4 y5 y6 y7 y8 y9 y10 : Option V) (r a : Addr) (kvs : List (Key × V)) (f : Key → Int × Int) (srt : Str) (num : Int × Int), σ = [some (.ref a0), some (.ref st), y2, some (.ref r), y4, y5, y6, y7, y8, y9, y10] ∧ StA st c H' ∧ Tabs T H' ∧ RowT K 4 H' r a kvs f srt num ∧ (∀ k, Okb 110 (f k)) ∧ Okb 110 num) (fun key => ?main) ?cont
    case main =>
      refine ⟨_, rfl, st, c, 8, rfl, by decide, lt8 (by decide), s4, fun H5 d5 b5 s5 l5 u5 => ⟨rfl, _, rfl, ite2 (fun _ => ?_) (fun _ => ?_)⟩⟩
      · refine ⟨_, rfl, _, rfl, st, c, r, a, kvs, f, srt, num, 4, rfl, by decide, s5, R4'.but b5 s4, okf, okn, fun H6 r' a' ks g num' b6 s6 R6 okg okn' => ?_⟩
        exact key _ _ ⟨_, _, _, _, _, _, _, _, r', a', ks, g, srt, num', rfl, s6, (t1.but b5 s4).but b6 s5, R6, okg, okn'⟩
      · exact key _ _ ⟨_, _, _, _, _, _, _, _, r, a, kvs, f, srt, num, rfl, s5, t1.but b5 s4, R4'.but b5 s4, fun k => (okf k).mono (by decide), okn.mono (by decide)⟩
    case cont =>
      clear R4' R4 okf okn s4 t1 b4 hx hlen hu3 nu s3 b3 s2 b2 s1
      rintro σ H5 ⟨y2, y4, y5, y6, y7, y8, y9, y10, r, a, kvs, f, srt, num, rfl, s5, t5, R5, okf, okn⟩
      refine ⟨_, rfl, st, c, 2, rfl, by decide, lt8 (by decide), s5, fun H6 wy b6 s6 l6 u6 => ?_⟩
      have R6 := R5.but b6 s5
      have t6 := t5.but b6 s5
      obtain ⟨pn, h1, dm6, _, hs⟩ := id R6
      refine ⟨_, rfl, r, _, 0, _, rfl, rfl, SqT.of h1, atI_nat (j := 0) rfl, a, kvs, f, 4, rfl, dm6, by decide, fun k => (okf k).mono (by decide), fun H7 ys x1 s7 sk yl et => ?_⟩
      refine ⟨_, rfl, r, a, kvs, f, srt, num, 4, rfl, R6.same s7, by decide, fun k => (okf k).mono (by decide), okn.mono (by decide), fun H8 ys' x2 s8 sk' yl' er => ?_⟩
      have m1 := sum_m okf sk.2.2.2
      have m2 := row_m okf sk'.2.2.2 hs okn
      rw [← et, ← len_tl] at m1
      rw [← er, ← len_tl] at m2
      refine ⟨small2, fun U nU => ?_⟩
      have sU := same_new (o := .tup [.str x1, .str x2]) nU
      have hU := upd_same (H := H8) (a := U) (o := .tup [.str x1, .str x2])
      have S8 := (s7.trans s8).trans sU
      have s9 := s6.same S8
      have t9 := t6.same S8
      generalize upd H8 U (.tup [.str x1, .str x2]) = H9 at hU s9 t9 ⊢
      obtain ⟨x, ex, xl, xc⟩ : ∃ x, atI [V.str x1, V.str x2] wy = some (.str x) ∧ x.length ≤ 403 ∧ (tl x).count 32 ≤ 15 := by
        rcases (show wy = 0 ∨ wy = 1 by omega) with e | e <;> subst e
        · exact ⟨x1, rfl, by omega, by omega⟩
        · exact ⟨x2, rfl, by omega, by omega⟩
      refine ⟨_, rfl, U, _, _, _, rfl, rfl, SqT.of hU, ex, ?_⟩
      clear hU S8 sU nU dm6 s8 s7 sk sk' yl yl' et er m1 m2 h1 R6 R5 hs t6 t5 s6 s5 b6
      refine ⟨_, rfl, st, c, 6, rfl, by decide, lt8 (by decide), s9, fun H10 sp b10 s10 l10 u10 => ?_⟩
      have t10 := t9.but b10 s9
      refine' mid (C := _) (Inv := fun σ H' => ∃ (y2 y3 y7 y8 y9 y10 : Option V) (x : Str), σ = [some (.ref a0), some (.ref st), y2, y3, some (.int wy), some (.str x), some (.int sp), y7, y8, y9, y10] ∧ StA st c H' ∧ Tabs T H' ∧ x.length ≤ 820 ∧ (tl x).count 32 ≤ 16) (fun key => ?main2) ?cont2
      case main2 =>
        refine ⟨_, rfl, small2, fun U nU => ?_⟩
        have sU := same_new (o := .tup [.int 1, .int 2]) nU
        have hU := upd_same (H := H10) (a := U) (o := .tup [.int 1, .int 2])
        have s11 := s10.same sU
        have t11 := t10.same sU
        generalize upd H10 U (.tup [.int 1, .int 2]) = H11 at sU hU s11 t11 ⊢
        refine ⟨U, _, rfl, .inr (SqT.of hU), rfl, rfl, _, rfl, ite2 (fun _ => ?_) (fun _ => ?_)⟩
        · refine ⟨_, rfl, _, rfl, st, c, x, rfl, by omega, by omega, s11, fun H12 y b12 s12 yl yc => ?_⟩
          exact key _ _ ⟨_, _, _, _, _, _, y, rfl, s12, t11.but b12 s11, by omega, by omega⟩
        · exact key _ _ ⟨_, _, _, _, _, _, x, rfl, s11, t11, by omega, by omega⟩
      case cont2 =>
        clear xl xc ex x t10 s10 b10 t9 s9
        rintro σ H11 ⟨y2, y3, y7, y8, y9, y10, x, rfl, s11, t11, xl, xc⟩
        refine ⟨by show 6 ≤ sizeLine; decide, fun U nU => ?_⟩
        have sU := same_new (o := .tup [.int 0, .int 0, .int 1, .int 1, .int 2, .int 0]) nU
        have hU := upd_same (H := H11) (a := U) (o := .tup [.int 0, .int 0, .int 1, .int 1, .int 2, .int 0])
        have s12 := s11.same sU
        have t12 := t11.same sU
        generalize upd H11 U (.tup [.int 0, .int 0, .int 1, .int 1, .int 2, .int 0]) = H12 at sU hU s12 t12 ⊢
        obtain ⟨j, ej, j0, j2⟩ : ∃ j : Int, atI [V.int 0, V.int 0, V.int 1, V.int 1, V.int 2, V.int 0] sp = some (.int j) ∧ 0 ≤ j ∧ j ≤ 2 := by
          rcases (show sp = 0 ∨ sp = 1 ∨ sp = 2 ∨ sp = 3 ∨ sp = 4 ∨ sp = 5 by omega) with e | e | e | e | e | e <;> subst e
          · exact ⟨0, rfl, by decide, by decide⟩
          · exact ⟨0, rfl, by decide, by decide⟩
          · exact ⟨1, rfl, by decide, by decide⟩
          · exact ⟨1, rfl, by decide, by decide⟩
          · exact ⟨2, rfl, by decide, by decide⟩
          · exact ⟨0, rfl, by decide, by decide⟩
        refine ⟨_, rfl, U, _, _, _, rfl, rfl, SqT.of hU, ej, ?_⟩
        refine ⟨j, rfl, by omega, by omega, for_range (n := j.toNat) (fun k σ H' => ∃ (y2 y3 y7 y8 y9 y10 : Option V) (x : Str), σ = [some (.ref a0), some (.ref st), y2, y3, some (.int wy), some (.str x), some (.int sp), y7, y8, y9, y10] ∧ StA st c H' ∧ Tabs T H' ∧ x.length ≤ 820 + k ∧ (tl x).count 32 ≤ 16 + k)
          ⟨_, _, _, _, _, _, x, rfl, s12, t12, by omega, by omega⟩ ?_ ?_⟩
        · rintro k σ H13 hk ⟨y2, y3, y7, y8, y9, y10, x, rfl, s13, t13, xl, xc⟩
          refine ⟨_, rfl, _, rfl, st, c, x, rfl, by omega, s13, fun H14 y b14 s14 yl yc => ?_⟩
          exact ⟨_, _, _, _, _, _, y, rfl, s14, t13.but b14 s13, by omega, by omega⟩
        · rintro σ H13 ⟨y2, y3, y7, y8, y9, y10, x, rfl, s13, t13, xl, xc⟩
          have xl2 : x.length ≤ 890 := by omega
          have xc2 : (tl x).count 32 ≤ 35 := by omega
          clear xl xc
          refine ⟨_, rfl, _, rfl, 1, wy, rfl, rfl, _, rfl, by show 3 ≤ sizeLine; decide, fun U nU => ?_⟩
          have sU := same_new (o := .tup [.int wy, .int (1 - wy), .int wy]) nU
          have hU := upd_same (H := H13) (a := U) (o := .tup [.int wy, .int (1 - wy), .int wy])
          have s14 := s13.same sU
          have t14 := t13.same sU
          generalize upd H13 U (.tup [.int wy, .int (1 - wy), .int wy]) = H14 at sU hU s14 t14 ⊢
          refine ⟨U, rfl, ⟨_, SqT.of hU⟩, for_tup (K := K) (a := U) (xs := [.int wy, .int (1 - wy), .int wy]) (fun j σ H' => ∃ (y2 y3 y7 y8 y9 y10 : Option V), σ = [some (.ref a0), some (.ref st), y2, y3, some (.int wy), some (.str x), some (.int sp), y7, y8, y9, y10] ∧ SameT T H14 H')
            ⟨_, _, _, _, _, _, rfl, SameT.refl t14⟩ (fun j σ H' _ ⟨_, _, _, _, _, _, _, e⟩ => SqT.of (e.ext _ _ hU (fun ps z => by cases z))) ?_ ?_⟩
          · rintro j v σ H15 hv ⟨y2, y3, y7, y8, y9, y10, rfl, t15⟩
            obtain ⟨b, rfl⟩ : ∃ b : Bool, v = .int (if b = true then 1 else 0) := by
              have h01 : ∀ z : Int, 0 ≤ z → z < 2 → ∃ b : Bool, V.int z = .int (if b = true then 1 else 0) := fun z z0 z1 => by
                rcases (show z = 0 ∨ z = 1 by omega) with e | e <;> subst e
                · exact ⟨false, rfl⟩
                · exact ⟨true, rfl⟩
              match j, hv with
              | 0, e => rw [← Option.some.inj e]; exact h01 wy (by omega) (by omega)
              | 1, e => rw [← Option.some.inj e]; exact h01 (1 - wy) (by omega) (by omega)
              | 2, e => rw [← Option.some.inj e]; exact h01 wy (by omega) (by omega)
              | n + 3, e => cases e
            refine ⟨_, rfl, ?_⟩
            dsimp only [tNil, List.append_nil, List.cons_append, List.nil_append]
            refine use_ws xl2 xc2 fun v1 H16 s16 S1' => ?_
            refine ⟨_, rfl, ?_⟩
            dsimp only [tNil, List.append_nil, List.cons_append, List.nil_append]
            refine use_td xl2 xc2 fun v2 H17 s17 S2' => ?_
            refine ⟨small2, fun V0 nV => ?_⟩
            have sV := same_new (o := .tup [v1, v2]) nV
            have hV := upd_same (H := H17) (a := V0) (o := .tup [v1, v2])
            have t18 := t15.trans (SameT.of t15.tab ((s16.trans s17).trans sV))
            replace S1' := (S1'.same s17).same sV
            replace S2' := S2'.same sV
            generalize upd H17 V0 (.tup [v1, v2]) = H18 at sV hV t18 S1' S2' ⊢
            obtain ⟨vb, evb, hvb⟩ : ∃ vb, atI [v1, v2] (if b = true then 1 else 0) = some vb ∧ ((b = false ∧ S1 H18 x vb) ∨ (b = true ∧ S2 K H18 x vb)) := by
              cases b with
              | false => exact ⟨v1, rfl, .inl ⟨rfl, S1'⟩⟩
              | true => exact ⟨v2, rfl, .inr ⟨rfl, S2'⟩⟩
            refine ⟨_, rfl, V0, _, _, _, rfl, rfl, SqT.of hV, evb, ?_⟩
            refine ⟨_, rfl, small2, fun D nD => ?_⟩
            have sD := same_new (o := .tup [.str "told", vb]) nD
            have hD := upd_same (H := H18) (a := D) (o := .tup [.str "told", vb])
            have t19 := t18.trans (SameT.of t18.tab sD)
            have hvb9 : (b = false ∧ S1 (upd H18 D (.tup [.str "told", vb])) x vb) ∨ (b = true ∧ S2 K (upd H18 D (.tup [.str "told", vb])) x vb) := by
              rcases hvb with ⟨e1, e2⟩ | ⟨e1, e2⟩
              · exact .inl ⟨e1, e2.same sD⟩
              · exact .inr ⟨e1, e2.same sD⟩
            generalize upd H18 D (.tup [.str "told", vb]) = H19 at sD hD t19 hvb9 ⊢
            refine' mid (C := _) (Inv := fun σ H' => ∃ (y2 y3 y7 : Option V) (D : Addr), σ = [some (.ref a0), some (.ref st), y2, y3, some (.int wy), some (.str x), some (.int sp), y7, some (.int (if b = true then 1 else 0)), some vb, some (.ref D)] ∧ SameT T H14 H' ∧ ((b = false ∧ S1 H' x vb) ∨ (b = true ∧ S2 K H' x vb)) ∧ ((vb = .non ∧ H' D = some (.tup [.str "refused", .str "NoText"])) ∨ (vb ≠ .non ∧ H' D = some (.tup [.str "told", vb])))) (fun key => ?main3) ?cont3
            case main3 =>
              refine ⟨_, rfl, rfl, _, rfl, ite2 (fun z => ?_) (fun z => ?_)⟩
              · refine ⟨small2, fun D2 nD2 => ?_⟩
                have s2' := same_new (o := .tup [.str "refused", .str "NoText"]) nD2
                dsimp only [gName]
                refine key _ _ ⟨_, _, _, D2, rfl, t19.trans (SameT.of t19.tab s2'), ?_, .inl ⟨of_decide_eq_true z, upd_same⟩⟩
                rcases hvb9 with ⟨e1, e2⟩ | ⟨e1, e2⟩
                · exact .inl ⟨e1, e2.same s2'⟩
                · exact .inr ⟨e1, e2.same s2'⟩
              · exact key _ _ ⟨_, _, _, D, rfl, t19, hvb9, .inr ⟨fun y => z (decide_eq_true y), hD⟩⟩
            case cont3 =>
              rintro σ H20 ⟨y2, y3, y7, D', rfl, t20, hv20, hD20⟩
              refine ⟨_, rfl, _, rfl, ?_⟩
              dsimp only [tNil, List.append_nil, List.cons_append, List.nil_append]
              refine use_ak xl2 xc2 t20.tab hv20 hD20 fun H21 t s21 hne => ?_
              refine ⟨_, rfl, neXT_k hne ⟨_, rfl, iteF ?_⟩⟩
              exact ⟨_, _, _, _, _, _, rfl, t20.trans s21⟩
          · rintro σ H15 ⟨y2, y3, y7, y8, y9, y10, rfl, t15⟩
            exact ⟨_, _, _, _, _, _, _, _, _, rfl, s14.sameT t15, t15.tab⟩
end
end SS
namespace SS
open PySem PySem.Spec PyProof.Rows L2
/-! ### the end of a law whose program has tables of generator expressions -/
theorem tabIn_of {K : PySem.W.Frag} {x : Str} {f c Pt : Addr} {oc e : Value} {od dd : Option Addr} {fd : FuncData} {sl s2 : Array (Option Value)} {vs : Array Value} (a : PySem.W.nsIn K mainGlobals x = some (some (.ref f))) (l : K.lookup f = some ⟨oc, od, .func fd, sl⟩) (hc : fd.code = .ref c)
    (lc : K.lookup c = some ⟨e, dd, .fields vs, s2⟩) (h11 : vs[11]? = some (.ref Pt)) : PySem.W.tabIn K x = some (c, Pt) := by
  unfold PySem.W.tabIn
  rw [a]
  simp only [l, hc, lc, h11]
def TabsOf (K : PySem.W.Frag) (h : Heap) (names : List Str) : Prop := ∀ x ∈ names, ∀ c Pt, PySem.W.tabIn K x = some (c, Pt) → PySem.W.CodeHd h c Pt ∧ h.get? Pt = some { cls := .none, data := .fields #[] }
theorem walk_ofN {l : PySem.W.OpenLaw} {n k : Nat} {q : Program} {loose : List Str} {XP : (Str → Option Value) → Heap → Prop} {YP : World → Heap → Prop} {d : DefRec} {K : Params → PySem.W.Frag} {CX : World → CXT} {x : Str} (names : List Str)
    (hn : l.most = some n) (hn2 : n ≤ sizeLine) (hdf : d.params.defaults = []) (hr : Room k callerA) (hrec : ∀ x ∈ names, ((recsOf q).any fun e => e.name == x) = true) (hY : ∀ (w : World) (h : Heap), YP w h → (K w.params).In h)
    (F : ∀ (w : World) (mg : Str → Option Value) (fa : Addr) (h : Heap), (K w.params).In h → h.Ns mainGlobals mg → mg d.name = some (.ref fa) → TabsOf (K w.params) h names → LamX.LawAtS l w (K w.params) (CX w) k n x mg fa h)
    (hCX : ∀ (w : World) (H : Hp) (s : Shared) (e : Value) (s' : Shared), CX w [] H s (fun _ _ _ => False) e s' → False) :
    PySem.W.WalkO q loose XP YP l.row.toRowW d [] (fun f vs => PySem.call f vs) := by
  refine Att.attach_callB hn hdf fun w s₀ s₁ mg mb fa o pm cd doc a vs ns G Y ho hd hcd hmg hobj hints hlen hbits hg => ?_
  have KX := hY w _ Y
  have tb : TabsOf (K w.params) s₁.heap names := fun y hy c Pt ht => by
    cases e : (recsOf q).find? (fun e => e.name == y) with
    | none =>
      have z := List.find?_eq_none.mp e
      obtain ⟨dL, hm, hn1⟩ := List.any_eq_true.mp (hrec y hy)
      exact absurd hn1 (z dL hm)
    | some dL => exact PySem.W.tab_of G.T KX e ht
  obtain ⟨fd, cs, sp, hT, nT, C, hb, hsp, hF⟩ := F w mg fa _ KX G.T.g hmg tb
  exact LamX.law_callTs KX G.T.g G.T.b G.T.builtins G.T.nolimit hg hT nT C G.T.bmain hobj hints (Nat.le_trans hlen hn2) hr hF hb (fun H hH hS => hsp H a ns hlen hbits hH hS) fun H e s' => hCX w H s₁ e s'
theorem tbOf {base : Heap} {mg : Str → Option Value} {c Pt : Addr} (t : LamX.TabB base mg c Pt) : GxR.TabB base mg c Pt := ⟨t.code, t.bm, t.gP⟩
theorem tabs_nil {T : List Addr} {H : Hp} (h : ∀ P ∈ T, H P = some (.tbl #[])) : Tabs T H := fun P hP => ⟨#[], h P hP, True.intro⟩
end SS
namespace SS
open PySem PySem.Spec PyProof.Rows L2
def cl16 (l : List Addr) (n : Nat) : Addr := l.getD n 0
def excOk (K : PySem.W.Frag) (C : Addr) : Bool :=
  PySem.W.excIn K C [.type "ValueError", .type "Exception", .type "BaseException", .type "object"] "ValueError.__new__" && PySem.W.keepIn K (.ref C) && decide (PySem.W.subIn K (.ref C) (.type "BaseException") = some true) && decide (PySem.W.typeIn K (.ref C) = some (.type "type")) &&
  decide (PySem.W.findIn K (.ref C) "__getattribute__" = some (some (.builtin "BaseException.__getattribute__"))) && decide (PySem.W.findIn K (.ref C) "__getattr__" = some none) && PySem.W.hasDictIn K C &&
  decide (PySem.W.findIn K (.ref C) "__class__" = some (some (.builtin "object.__class__"))) && decide (PySem.W.mroIn K C (.type "object") = some true) && decide (PySem.W.kitOne K (.ref C) (.type "ValueError") = some true)
def excAll (K : PySem.W.Frag) (l : List Addr) : Bool := (List.range 16).all fun i => excOk K (cl16 l i) && decide (PySem.W.exmOne K (.ref (cl16 l i)) (.ref (cl16 l 15)) = some true)
def kitAll (K : PySem.W.Frag) (l : List Addr) : Bool := (List.range 16).all fun i => (List.range 15).all fun j => decide (PySem.W.kitOne K (.ref (cl16 l i)) (.ref (cl16 l j)) = some (decide (i = j)))
theorem c16_mk {K : PySem.W.Frag} {mg : Str → Option Value} {l : List Addr} (hE : excAll K l = true) (hK : kitAll K l = true) (hg : ∀ i, i < 16 → mg (nms.getD i "") = some (.ref (cl16 l i)))
    (hn : PySem.W.specialIn K (.builtin "object.__class__") "__get__" = some (some (.builtin "getset_descriptor.__get__"))) (ht : PySem.W.takesIn K (.builtin "object.__class__") = some true) : C16 K mg (cl16 l) := by
  have all : ∀ i, i < 16 → excOk K (cl16 l i) = true ∧ PySem.W.exmOne K (.ref (cl16 l i)) (.ref (cl16 l 15)) = some true := fun i hi => by
    have z := List.all_eq_true.mp hE i (List.mem_range.mpr hi)
    rw [Bool.and_eq_true] at z
    exact ⟨z.1, of_decide_eq_true z.2⟩
  have sp : ∀ i, i < 16 → _ := fun i hi => by
    have z := (all i hi).1
    unfold excOk at z
    simp only [Bool.and_eq_true, decide_eq_true_eq] at z
    exact z
  refine ⟨fun i hi => ?_, fun i hi => ?_, fun i j hi hj => ?_, fun i hi => ?_, fun i hi => (all i hi).2⟩
  · obtain ⟨⟨⟨⟨⟨⟨⟨⟨⟨z1, z2⟩, z3⟩, z4⟩, z5⟩, z6⟩, z7⟩, z8⟩, z9⟩, z10⟩ := sp i hi
    exact ⟨hg i hi, z1, z2, z3, z4⟩
  · obtain ⟨⟨⟨⟨⟨⟨⟨⟨⟨z1, z2⟩, z3⟩, z4⟩, z5⟩, z6⟩, z7⟩, z8⟩, z9⟩, z10⟩ := sp i hi
    exact ⟨z5, z6, z3, z7, z8, hn, ht, z9⟩
  · have z := List.all_eq_true.mp hK i (List.mem_range.mpr hi)
    exact of_decide_eq_true (List.all_eq_true.mp z j (List.mem_range.mpr hj))
  · obtain ⟨⟨⟨⟨⟨⟨⟨⟨⟨z1, z2⟩, z3⟩, z4⟩, z5⟩, z6⟩, z7⟩, z8⟩, z9⟩, z10⟩ := sp i hi
    exact z10
end SS
namespace SS
open PySem PySem.Spec PyProof.Rows L2
/-! ### what the top leaves -/
set_option maxHeartbeats 4000000 in
theorem all_mk {l : PySem.W.OpenLaw} {w : World} {K : PySem.W.Frag} {h : Heap} {mg : Str → Option Value} {fa : Addr} (X : K.In h) (G : h.Ns mainGlobals mg) (hfa : mg "law" = some (.ref fa)) (tb : TabsOf K h ["fits_unknown", "read_whole"])
    {f0 : Addr} {od0 an0 : Option Addr} {sl0 : Array (Option Value)} {oc0 kV0 dc0 pm0 ct0 : Value}
    {cd0 : Value}
    {f1 : Addr} {od1 an1 : Option Addr} {sl1 : Array (Option Value)} {oc1 kV1 dc1 pm1 ct1 : Value}
    {T1 : Addr} {odT1 : Option Addr} {slT1 : Array (Option Value)} {ocT1 : Value} {nT1 : Nat} {tT1 : Tok}
    {cd1 : Value}
    {f2 : Addr} {od2 an2 : Option Addr} {sl2 : Array (Option Value)} {oc2 kV2 dc2 pm2 ct2 : Value}
    {cd2 : Value}
    {f3 : Addr} {od3 an3 : Option Addr} {sl3 : Array (Option Value)} {oc3 kV3 dc3 pm3 ct3 : Value}
    {cd3 : Value}
    {f4 : Addr} {od4 an4 : Option Addr} {sl4 : Array (Option Value)} {oc4 kV4 dc4 pm4 ct4 : Value}
    {cd4 : Value}
    {f5 : Addr} {od5 an5 : Option Addr} {sl5 : Array (Option Value)} {oc5 kV5 dc5 pm5 ct5 : Value}
    {cd5 : Value}
    {f6 : Addr} {od6 an6 : Option Addr} {sl6 : Array (Option Value)} {oc6 kV6 dc6 pm6 ct6 : Value}
    {cd6 : Value}
    {f7 : Addr} {od7 an7 : Option Addr} {sl7 : Array (Option Value)} {oc7 kV7 dc7 pm7 ct7 : Value}
    {cc7 PP7 : Addr} {ce7 : Value} {cdd7 : Option Addr} {cvs7 : Array Value} {csl7 : Array (Option Value)}
    {f8 : Addr} {od8 an8 : Option Addr} {sl8 : Array (Option Value)} {oc8 kV8 dc8 pm8 ct8 : Value}
    {cd8 : Value}
    {f9 : Addr} {od9 an9 : Option Addr} {sl9 : Array (Option Value)} {oc9 kV9 dc9 pm9 ct9 : Value}
    {cd9 : Value}
    {f10 : Addr} {od10 an10 : Option Addr} {sl10 : Array (Option Value)} {oc10 kV10 dc10 pm10 ct10 : Value}
    {cd10 : Value}
    {f11 : Addr} {od11 an11 : Option Addr} {sl11 : Array (Option Value)} {oc11 kV11 dc11 pm11 ct11 : Value}
    {cc11 PP11 : Addr} {ce11 : Value} {cdd11 : Option Addr} {cvs11 : Array Value} {csl11 : Array (Option Value)}
    {f12 : Addr} {od12 an12 : Option Addr} {sl12 : Array (Option Value)} {oc12 kV12 dc12 pm12 ct12 : Value}
    {cd12 : Value}
    {f13 : Addr} {od13 an13 : Option Addr} {sl13 : Array (Option Value)} {oc13 kV13 dc13 pm13 ct13 : Value}
    {cd13 : Value}
    {f14 : Addr} {od14 an14 : Option Addr} {sl14 : Array (Option Value)} {oc14 kV14 dc14 pm14 ct14 : Value}
    {cd14 : Value}
    {f15 : Addr} {od15 an15 : Option Addr} {sl15 : Array (Option Value)} {oc15 kV15 dc15 pm15 ct15 : Value}
    {cd15 : Value}
    {f16 : Addr} {od16 an16 : Option Addr} {sl16 : Array (Option Value)} {oc16 kV16 dc16 pm16 ct16 : Value}
    {cd16 : Value}
    {f17 : Addr} {od17 an17 : Option Addr} {sl17 : Array (Option Value)} {oc17 kV17 dc17 pm17 ct17 : Value}
    {cd17 : Value}
    {f18 : Addr} {od18 an18 : Option Addr} {sl18 : Array (Option Value)} {oc18 kV18 dc18 pm18 ct18 : Value}
    {cd18 : Value}
    {f19 : Addr} {od19 an19 : Option Addr} {sl19 : Array (Option Value)} {oc19 kV19 dc19 pm19 ct19 : Value}
    {cd19 : Value}
    {f20 : Addr} {od20 an20 : Option Addr} {sl20 : Array (Option Value)} {oc20 kV20 dc20 pm20 ct20 : Value}
    {cd20 : Value}
    {f21 : Addr} {od21 an21 : Option Addr} {sl21 : Array (Option Value)} {oc21 kV21 dc21 pm21 ct21 : Value}
    {cd21 : Value}
    {f22 : Addr} {od22 an22 : Option Addr} {sl22 : Array (Option Value)} {oc22 kV22 dc22 pm22 ct22 : Value}
    {cd22 : Value}
    {f23 : Addr} {od23 an23 : Option Addr} {sl23 : Array (Option Value)} {oc23 kV23 dc23 pm23 ct23 : Value}
    {cd23 : Value}
    {f24 : Addr} {od24 an24 : Option Addr} {sl24 : Array (Option Value)} {oc24 kV24 dc24 pm24 ct24 : Value}
    {cd24 : Value}
    {f25 : Addr} {od25 an25 : Option Addr} {sl25 : Array (Option Value)} {oc25 kV25 dc25 pm25 ct25 : Value}
    {cd25 : Value}
    {f26 : Addr} {od26 an26 : Option Addr} {sl26 : Array (Option Value)} {oc26 kV26 dc26 pm26 ct26 : Value}
    {cd26 : Value}
    {f27 : Addr} {od27 an27 : Option Addr} {sl27 : Array (Option Value)} {oc27 kV27 dc27 pm27 ct27 : Value}
    {cd27 : Value}
    {f28 : Addr} {od28 an28 : Option Addr} {sl28 : Array (Option Value)} {oc28 kV28 dc28 pm28 ct28 : Value}
    {cd28 : Value}
    {f29 : Addr} {od29 an29 : Option Addr} {sl29 : Array (Option Value)} {oc29 kV29 dc29 pm29 ct29 : Value}
    {cd29 : Value}
    {f30 : Addr} {od30 an30 : Option Addr} {sl30 : Array (Option Value)} {oc30 kV30 dc30 pm30 ct30 : Value}
    {cd30 : Value}
    {f31 : Addr} {od31 an31 : Option Addr} {sl31 : Array (Option Value)} {oc31 kV31 dc31 pm31 ct31 : Value}
    {cd31 : Value}
    {f32 : Addr} {od32 an32 : Option Addr} {sl32 : Array (Option Value)} {oc32 kV32 dc32 pm32 ct32 : Value}
    {cd32 : Value}
    {f33 : Addr} {od33 an33 : Option Addr} {sl33 : Array (Option Value)} {oc33 kV33 dc33 pm33 ct33 : Value}
    {cd33 : Value}
    {f34 : Addr} {od34 an34 : Option Addr} {sl34 : Array (Option Value)} {oc34 kV34 dc34 pm34 ct34 : Value}
    {cd34 : Value}
    {f35 : Addr} {od35 an35 : Option Addr} {sl35 : Array (Option Value)} {oc35 kV35 dc35 pm35 ct35 : Value}
    {cd35 : Value}
    {f36 : Addr} {od36 an36 : Option Addr} {sl36 : Array (Option Value)} {oc36 kV36 dc36 pm36 ct36 : Value}
    {cd36 : Value}
    {f37 : Addr} {od37 an37 : Option Addr} {sl37 : Array (Option Value)} {oc37 kV37 dc37 pm37 ct37 : Value}
    {cd37 : Value}
    {f38 : Addr} {od38 an38 : Option Addr} {sl38 : Array (Option Value)} {oc38 kV38 dc38 pm38 ct38 : Value}
    {cd38 : Value}
    {f39 : Addr} {od39 an39 : Option Addr} {sl39 : Array (Option Value)} {oc39 kV39 dc39 pm39 ct39 : Value}
    {cd39 : Value}
    {f40 : Addr} {od40 an40 : Option Addr} {sl40 : Array (Option Value)} {oc40 kV40 dc40 pm40 ct40 : Value}
    {cd40 : Value}
    {f41 : Addr} {od41 an41 : Option Addr} {sl41 : Array (Option Value)} {oc41 kV41 dc41 pm41 ct41 : Value}
    {cd41 : Value}
    {f42 : Addr} {od42 an42 : Option Addr} {sl42 : Array (Option Value)} {oc42 kV42 dc42 pm42 ct42 : Value}
    {cd42 : Value}
    {f43 : Addr} {od43 an43 : Option Addr} {sl43 : Array (Option Value)} {oc43 kV43 dc43 pm43 ct43 : Value}
    {cd43 : Value}
    {aO : Addr} {odO : Option Addr} {tO0 tO1 : Tok} {nO : Nat} {slO : Array (Option Value)}
    {aM : Addr} {odM : Option Addr} {tM0 tM1 : Tok} {nM : Nat} {slM : Array (Option Value)}
    {tMo tFi : Tok}
    {aN : Addr} {odN : Option Addr} {tN0 tN1 : Tok} {nN : Nat} {slN : Array (Option Value)}
    {tSb : Tok}
    {tL tA : Tok}
    {aS : Addr} {odS : Option Addr} {tS0 tS1 tS2 tS3 tS4 : Tok} {nS : Nat} {slS : Array (Option Value)}
    {q0 : Addr}
    {q1 : Addr}
    {q2 : Addr}
    {q3 : Addr}
    {q4 : Addr}
    {q5 : Addr}
    {q6 : Addr}
    {q7 : Addr}
    {q8 : Addr}
    {q9 : Addr}
    {q10 : Addr}
    {q11 : Addr}
    {q12 : Addr}
    {q13 : Addr}
    {q14 : Addr}
    {q15 : Addr}
    (a0 : PySem.W.nsIn K mainGlobals "common_divisor" = some (some (.ref f0)))
    (l0 : K.lookup f0 = some ⟨oc0, od0, .func (PySem.W.fnOf "common_divisor" "common_divisor" (defArgs sCd) (defBody sCd) (defScope sCd) .none kV0 dc0 pm0 an0 cd0 ct0), sl0⟩)
    (c0 : PySem.W.codeIn K cd0 "common_divisor" = true)
    (k0 : PySem.W.keepIn K (.ref f0) = true)
    (a1 : PySem.W.nsIn K mainGlobals "fraction_of" = some (some (.ref f1)))
    (l1 : K.lookup f1 = some ⟨oc1, od1, .func (PySem.W.fnOf "fraction_of" "fraction_of" (defArgs sFo) (defBody sFo) (defScope sFo) (.ref T1) kV1 dc1 pm1 an1 cd1 ct1), sl1⟩)
    (t1 : K.lookup T1 = some ⟨ocT1, odT1, .seq #[.int 1 tT1] nT1, slT1⟩)
    (c1 : PySem.W.codeIn K cd1 "fraction_of" = true)
    (k1 : PySem.W.keepIn K (.ref f1) = true)
    (a2 : PySem.W.nsIn K mainGlobals "are_short" = some (some (.ref f2)))
    (l2 : K.lookup f2 = some ⟨oc2, od2, .func (PySem.W.fnOf "are_short" "are_short" (defArgs sAre) (defBody sAre) (defScope sAre) .none kV2 dc2 pm2 an2 cd2 ct2), sl2⟩)
    (c2 : PySem.W.codeIn K cd2 "are_short" = true)
    (k2 : PySem.W.keepIn K (.ref f2) = true)
    (a3 : PySem.W.nsIn K mainGlobals "plus" = some (some (.ref f3)))
    (l3 : K.lookup f3 = some ⟨oc3, od3, .func (PySem.W.fnOf "plus" "plus" (defArgs sPlus) (defBody sPlus) (defScope sPlus) .none kV3 dc3 pm3 an3 cd3 ct3), sl3⟩)
    (c3 : PySem.W.codeIn K cd3 "plus" = true)
    (k3 : PySem.W.keepIn K (.ref f3) = true)
    (a4 : PySem.W.nsIn K mainGlobals "times" = some (some (.ref f4)))
    (l4 : K.lookup f4 = some ⟨oc4, od4, .func (PySem.W.fnOf "times" "times" (defArgs sTimes) (defBody sTimes) (defScope sTimes) .none kV4 dc4 pm4 an4 cd4 ct4), sl4⟩)
    (c4 : PySem.W.codeIn K cd4 "times" = true)
    (k4 : PySem.W.keepIn K (.ref f4) = true)
    (a5 : PySem.W.nsIn K mainGlobals "without_noughts" = some (some (.ref f5)))
    (l5 : K.lookup f5 = some ⟨oc5, od5, .func (PySem.W.fnOf "without_noughts" "without_noughts" (defArgs sWn) (defBody sWn) (defScope sWn) .none kV5 dc5 pm5 an5 cd5 ct5), sl5⟩)
    (c5 : PySem.W.codeIn K cd5 "without_noughts" = true)
    (k5 : PySem.W.keepIn K (.ref f5) = true)
    (a6 : PySem.W.nsIn K mainGlobals "sum_of" = some (some (.ref f6)))
    (l6 : K.lookup f6 = some ⟨oc6, od6, .func (PySem.W.fnOf "sum_of" "sum_of" (defArgs sSumOf) (defBody sSumOf) (defScope sSumOf) .none kV6 dc6 pm6 an6 cd6 ct6), sl6⟩)
    (c6 : PySem.W.codeIn K cd6 "sum_of" = true)
    (k6 : PySem.W.keepIn K (.ref f6) = true)
    (a7 : PySem.W.nsIn K mainGlobals "fits_unknown" = some (some (.ref f7)))
    (l7 : K.lookup f7 = some ⟨oc7, od7, .func (PySem.W.fnOf "fits_unknown" "fits_unknown" (defArgs sFitsU) (defBody sFitsU) (defScope sFitsU) .none kV7 dc7 pm7 an7 (.ref cc7) ct7), sl7⟩)
    (c7 : PySem.W.codeIn K (.ref cc7) "fits_unknown" = true)
    (k7 : PySem.W.keepIn K (.ref f7) = true)
    (lc7 : K.lookup cc7 = some ⟨ce7, cdd7, .fields cvs7, csl7⟩)
    (pp7 : cvs7[11]? = some (.ref PP7))
    (np7 : K.lookup PP7 = none)
    (a8 : PySem.W.nsIn K mainGlobals "fraction_text" = some (some (.ref f8)))
    (l8 : K.lookup f8 = some ⟨oc8, od8, .func (PySem.W.fnOf "fraction_text" "fraction_text" (defArgs sFtx) (defBody sFtx) (defScope sFtx) .none kV8 dc8 pm8 an8 cd8 ct8), sl8⟩)
    (c8 : PySem.W.codeIn K cd8 "fraction_text" = true)
    (k8 : PySem.W.keepIn K (.ref f8) = true)
    (a9 : PySem.W.nsIn K mainGlobals "term_text" = some (some (.ref f9)))
    (l9 : K.lookup f9 = some ⟨oc9, od9, .func (PySem.W.fnOf "term_text" "term_text" (defArgs sTmx) (defBody sTmx) (defScope sTmx) .none kV9 dc9 pm9 an9 cd9 ct9), sl9⟩)
    (c9 : PySem.W.codeIn K cd9 "term_text" = true)
    (k9 : PySem.W.keepIn K (.ref f9) = true)
    (a10 : PySem.W.nsIn K mainGlobals "sum_text" = some (some (.ref f10)))
    (l10 : K.lookup f10 = some ⟨oc10, od10, .func (PySem.W.fnOf "sum_text" "sum_text" (defArgs sSmx) (defBody sSmx) (defScope sSmx) .none kV10 dc10 pm10 an10 cd10 ct10), sl10⟩)
    (c10 : PySem.W.codeIn K cd10 "sum_text" = true)
    (k10 : PySem.W.keepIn K (.ref f10) = true)
    (a11 : PySem.W.nsIn K mainGlobals "read_whole" = some (some (.ref f11)))
    (l11 : K.lookup f11 = some ⟨oc11, od11, .func (PySem.W.fnOf "read_whole" "read_whole" (defArgs sRdW) (defBody sRdW) (defScope sRdW) .none kV11 dc11 pm11 an11 (.ref cc11) ct11), sl11⟩)
    (c11 : PySem.W.codeIn K (.ref cc11) "read_whole" = true)
    (k11 : PySem.W.keepIn K (.ref f11) = true)
    (lc11 : K.lookup cc11 = some ⟨ce11, cdd11, .fields cvs11, csl11⟩)
    (pp11 : cvs11[11]? = some (.ref PP11))
    (np11 : K.lookup PP11 = none)
    (a12 : PySem.W.nsIn K mainGlobals "read_fraction" = some (some (.ref f12)))
    (l12 : K.lookup f12 = some ⟨oc12, od12, .func (PySem.W.fnOf "read_fraction" "read_fraction" (defArgs sRdF) (defBody sRdF) (defScope sRdF) .none kV12 dc12 pm12 an12 cd12 ct12), sl12⟩)
    (c12 : PySem.W.codeIn K cd12 "read_fraction" = true)
    (k12 : PySem.W.keepIn K (.ref f12) = true)
    (a13 : PySem.W.nsIn K mainGlobals "read_term" = some (some (.ref f13)))
    (l13 : K.lookup f13 = some ⟨oc13, od13, .func (PySem.W.fnOf "read_term" "read_term" (defArgs sRdT) (defBody sRdT) (defScope sRdT) .none kV13 dc13 pm13 an13 cd13 ct13), sl13⟩)
    (c13 : PySem.W.codeIn K cd13 "read_term" = true)
    (k13 : PySem.W.keepIn K (.ref f13) = true)
    (a14 : PySem.W.nsIn K mainGlobals "read_sum" = some (some (.ref f14)))
    (l14 : K.lookup f14 = some ⟨oc14, od14, .func (PySem.W.fnOf "read_sum" "read_sum" (defArgs sRdS) (defBody sRdS) (defScope sRdS) .none kV14 dc14 pm14 an14 cd14 ct14), sl14⟩)
    (c14 : PySem.W.codeIn K cd14 "read_sum" = true)
    (k14 : PySem.W.keepIn K (.ref f14) = true)
    (a15 : PySem.W.nsIn K mainGlobals "read_row" = some (some (.ref f15)))
    (l15 : K.lookup f15 = some ⟨oc15, od15, .func (PySem.W.fnOf "read_row" "read_row" (defArgs sRdR) (defBody sRdR) (defScope sRdR) .none kV15 dc15 pm15 an15 cd15 ct15), sl15⟩)
    (c15 : PySem.W.codeIn K cd15 "read_row" = true)
    (k15 : PySem.W.keepIn K (.ref f15) = true)
    (a16 : PySem.W.nsIn K mainGlobals "_law_fresh" = some (some (.ref f16)))
    (l16 : K.lookup f16 = some ⟨oc16, od16, .func (PySem.W.fnOf "_law_fresh" "_law_fresh" (defArgs sFresh) (defBody sFresh) (defScope sFresh) .none kV16 dc16 pm16 an16 cd16 ct16), sl16⟩)
    (c16 : PySem.W.codeIn K cd16 "_law_fresh" = true)
    (k16 : PySem.W.keepIn K (.ref f16) = true)
    (a17 : PySem.W.nsIn K mainGlobals "_law_mixed" = some (some (.ref f17)))
    (l17 : K.lookup f17 = some ⟨oc17, od17, .func (PySem.W.fnOf "_law_mixed" "_law_mixed" (defArgs sMixed) (defBody sMixed) (defScope sMixed) .none kV17 dc17 pm17 an17 cd17 ct17), sl17⟩)
    (c17 : PySem.W.codeIn K cd17 "_law_mixed" = true)
    (k17 : PySem.W.keepIn K (.ref f17) = true)
    (a18 : PySem.W.nsIn K mainGlobals "_law_fill" = some (some (.ref f18)))
    (l18 : K.lookup f18 = some ⟨oc18, od18, .func (PySem.W.fnOf "_law_fill" "_law_fill" (defArgs sFill) (defBody sFill) (defScope sFill) .none kV18 dc18 pm18 an18 cd18 ct18), sl18⟩)
    (c18 : PySem.W.codeIn K cd18 "_law_fill" = true)
    (k18 : PySem.W.keepIn K (.ref f18) = true)
    (a19 : PySem.W.nsIn K mainGlobals "_law_take" = some (some (.ref f19)))
    (l19 : K.lookup f19 = some ⟨oc19, od19, .func (PySem.W.fnOf "_law_take" "_law_take" (defArgs sTake) (defBody sTake) (defScope sTake) .none kV19 dc19 pm19 an19 cd19 ct19), sl19⟩)
    (c19 : PySem.W.codeIn K cd19 "_law_take" = true)
    (k19 : PySem.W.keepIn K (.ref f19) = true)
    (a20 : PySem.W.nsIn K mainGlobals "_law_shared" = some (some (.ref f20)))
    (l20 : K.lookup f20 = some ⟨oc20, od20, .func (PySem.W.fnOf "_law_shared" "_law_shared" (defArgs sSh) (defBody sSh) (defScope sSh) .none kV20 dc20 pm20 an20 cd20 ct20), sl20⟩)
    (c20 : PySem.W.codeIn K cd20 "_law_shared" = true)
    (k20 : PySem.W.keepIn K (.ref f20) = true)
    (a21 : PySem.W.nsIn K mainGlobals "_law_frac" = some (some (.ref f21)))
    (l21 : K.lookup f21 = some ⟨oc21, od21, .func (PySem.W.fnOf "_law_frac" "_law_frac" (defArgs sFrac) (defBody sFrac) (defScope sFrac) .none kV21 dc21 pm21 an21 cd21 ct21), sl21⟩)
    (c21 : PySem.W.codeIn K cd21 "_law_frac" = true)
    (k21 : PySem.W.keepIn K (.ref f21) = true)
    (a22 : PySem.W.nsIn K mainGlobals "_law_turned" = some (some (.ref f22)))
    (l22 : K.lookup f22 = some ⟨oc22, od22, .func (PySem.W.fnOf "_law_turned" "_law_turned" (defArgs sTurned) (defBody sTurned) (defScope sTurned) .none kV22 dc22 pm22 an22 cd22 ct22), sl22⟩)
    (c22 : PySem.W.codeIn K cd22 "_law_turned" = true)
    (k22 : PySem.W.keepIn K (.ref f22) = true)
    (a23 : PySem.W.nsIn K mainGlobals "_law_is_name" = some (some (.ref f23)))
    (l23 : K.lookup f23 = some ⟨oc23, od23, .func (PySem.W.fnOf "_law_is_name" "_law_is_name" (defArgs sIsName) (defBody sIsName) (defScope sIsName) .none kV23 dc23 pm23 an23 cd23 ct23), sl23⟩)
    (c23 : PySem.W.codeIn K cd23 "_law_is_name" = true)
    (k23 : PySem.W.keepIn K (.ref f23) = true)
    (a24 : PySem.W.nsIn K mainGlobals "_law_some_name" = some (some (.ref f24)))
    (l24 : K.lookup f24 = some ⟨oc24, od24, .func (PySem.W.fnOf "_law_some_name" "_law_some_name" (defArgs sSname) (defBody sSname) (defScope sSname) .none kV24 dc24 pm24 an24 cd24 ct24), sl24⟩)
    (c24 : PySem.W.codeIn K cd24 "_law_some_name" = true)
    (k24 : PySem.W.keepIn K (.ref f24) = true)
    (a25 : PySem.W.nsIn K mainGlobals "_law_names" = some (some (.ref f25)))
    (l25 : K.lookup f25 = some ⟨oc25, od25, .func (PySem.W.fnOf "_law_names" "_law_names" (defArgs sNames) (defBody sNames) (defScope sNames) .none kV25 dc25 pm25 an25 cd25 ct25), sl25⟩)
    (c25 : PySem.W.codeIn K cd25 "_law_names" = true)
    (k25 : PySem.W.keepIn K (.ref f25) = true)
    (a26 : PySem.W.nsIn K mainGlobals "_law_number" = some (some (.ref f26)))
    (l26 : K.lookup f26 = some ⟨oc26, od26, .func (PySem.W.fnOf "_law_number" "_law_number" (defArgs sNumber) (defBody sNumber) (defScope sNumber) .none kV26 dc26 pm26 an26 cd26 ct26), sl26⟩)
    (c26 : PySem.W.codeIn K cd26 "_law_number" = true)
    (k26 : PySem.W.keepIn K (.ref f26) = true)
    (a27 : PySem.W.nsIn K mainGlobals "_law_some_sum" = some (some (.ref f27)))
    (l27 : K.lookup f27 = some ⟨oc27, od27, .func (PySem.W.fnOf "_law_some_sum" "_law_some_sum" (defArgs sSsum) (defBody sSsum) (defScope sSsum) .none kV27 dc27 pm27 an27 cd27 ct27), sl27⟩)
    (c27 : PySem.W.codeIn K cd27 "_law_some_sum" = true)
    (k27 : PySem.W.keepIn K (.ref f27) = true)
    (a28 : PySem.W.nsIn K mainGlobals "_law_kind" = some (some (.ref f28)))
    (l28 : K.lookup f28 = some ⟨oc28, od28, .func (PySem.W.fnOf "_law_kind" "_law_kind" (defArgs sKind) (defBody sKind) (defScope sKind) .none kV28 dc28 pm28 an28 cd28 ct28), sl28⟩)
    (c28 : PySem.W.codeIn K cd28 "_law_kind" = true)
    (k28 : PySem.W.keepIn K (.ref f28) = true)
    (a29 : PySem.W.nsIn K mainGlobals "_law_any_row" = some (some (.ref f29)))
    (l29 : K.lookup f29 = some ⟨oc29, od29, .func (PySem.W.fnOf "_law_any_row" "_law_any_row" (defArgs sAnyRow) (defBody sAnyRow) (defScope sAnyRow) .none kV29 dc29 pm29 an29 cd29 ct29), sl29⟩)
    (c29 : PySem.W.codeIn K cd29 "_law_any_row" = true)
    (k29 : PySem.W.keepIn K (.ref f29) = true)
    (a30 : PySem.W.nsIn K mainGlobals "_law_fraction_text" = some (some (.ref f30)))
    (l30 : K.lookup f30 = some ⟨oc30, od30, .func (PySem.W.fnOf "_law_fraction_text" "_law_fraction_text" (defArgs sLFtx) (defBody sLFtx) (defScope sLFtx) .none kV30 dc30 pm30 an30 cd30 ct30), sl30⟩)
    (c30 : PySem.W.codeIn K cd30 "_law_fraction_text" = true)
    (k30 : PySem.W.keepIn K (.ref f30) = true)
    (a31 : PySem.W.nsIn K mainGlobals "_law_sum_text" = some (some (.ref f31)))
    (l31 : K.lookup f31 = some ⟨oc31, od31, .func (PySem.W.fnOf "_law_sum_text" "_law_sum_text" (defArgs sLSmx) (defBody sLSmx) (defScope sLSmx) .none kV31 dc31 pm31 an31 cd31 ct31), sl31⟩)
    (c31 : PySem.W.codeIn K cd31 "_law_sum_text" = true)
    (k31 : PySem.W.keepIn K (.ref f31) = true)
    (a32 : PySem.W.nsIn K mainGlobals "_law_row_text" = some (some (.ref f32)))
    (l32 : K.lookup f32 = some ⟨oc32, od32, .func (PySem.W.fnOf "_law_row_text" "_law_row_text" (defArgs sLRwx) (defBody sLRwx) (defScope sLRwx) .none kV32 dc32 pm32 an32 cd32 ct32), sl32⟩)
    (c32 : PySem.W.codeIn K cd32 "_law_row_text" = true)
    (k32 : PySem.W.keepIn K (.ref f32) = true)
    (a33 : PySem.W.nsIn K mainGlobals "_law_figures" = some (some (.ref f33)))
    (l33 : K.lookup f33 = some ⟨oc33, od33, .func (PySem.W.fnOf "_law_figures" "_law_figures" (defArgs sFigs) (defBody sFigs) (defScope sFigs) .none kV33 dc33 pm33 an33 cd33 ct33), sl33⟩)
    (c33 : PySem.W.codeIn K cd33 "_law_figures" = true)
    (k33 : PySem.W.keepIn K (.ref f33) = true)
    (a34 : PySem.W.nsIn K mainGlobals "_law_read_number" = some (some (.ref f34)))
    (l34 : K.lookup f34 = some ⟨oc34, od34, .func (PySem.W.fnOf "_law_read_number" "_law_read_number" (defArgs sRdN) (defBody sRdN) (defScope sRdN) .none kV34 dc34 pm34 an34 cd34 ct34), sl34⟩)
    (c34 : PySem.W.codeIn K cd34 "_law_read_number" = true)
    (k34 : PySem.W.keepIn K (.ref f34) = true)
    (a35 : PySem.W.nsIn K mainGlobals "_law_term" = some (some (.ref f35)))
    (l35 : K.lookup f35 = some ⟨oc35, od35, .func (PySem.W.fnOf "_law_term" "_law_term" (defArgs sLTerm) (defBody sLTerm) (defScope sLTerm) .none kV35 dc35 pm35 an35 cd35 ct35), sl35⟩)
    (c35 : PySem.W.codeIn K cd35 "_law_term" = true)
    (k35 : PySem.W.keepIn K (.ref f35) = true)
    (a36 : PySem.W.nsIn K mainGlobals "_law_read_words" = some (some (.ref f36)))
    (l36 : K.lookup f36 = some ⟨oc36, od36, .func (PySem.W.fnOf "_law_read_words" "_law_read_words" (defArgs sRdWs) (defBody sRdWs) (defScope sRdWs) .none kV36 dc36 pm36 an36 cd36 ct36), sl36⟩)
    (c36 : PySem.W.codeIn K cd36 "_law_read_words" = true)
    (k36 : PySem.W.keepIn K (.ref f36) = true)
    (a37 : PySem.W.nsIn K mainGlobals "_law_read_told" = some (some (.ref f37)))
    (l37 : K.lookup f37 = some ⟨oc37, od37, .func (PySem.W.fnOf "_law_read_told" "_law_read_told" (defArgs sRdTd) (defBody sRdTd) (defScope sRdTd) .none kV37 dc37 pm37 an37 cd37 ct37), sl37⟩)
    (c37 : PySem.W.codeIn K cd37 "_law_read_told" = true)
    (k37 : PySem.W.keepIn K (.ref f37) = true)
    (a38 : PySem.W.nsIn K mainGlobals "_law_sign" = some (some (.ref f38)))
    (l38 : K.lookup f38 = some ⟨oc38, od38, .func (PySem.W.fnOf "_law_sign" "_law_sign" (defArgs sSign) (defBody sSign) (defScope sSign) .none kV38 dc38 pm38 an38 cd38 ct38), sl38⟩)
    (c38 : PySem.W.codeIn K cd38 "_law_sign" = true)
    (k38 : PySem.W.keepIn K (.ref f38) = true)
    (a39 : PySem.W.nsIn K mainGlobals "_law_spoilt" = some (some (.ref f39)))
    (l39 : K.lookup f39 = some ⟨oc39, od39, .func (PySem.W.fnOf "_law_spoilt" "_law_spoilt" (defArgs sSpoilt) (defBody sSpoilt) (defScope sSpoilt) .none kV39 dc39 pm39 an39 cd39 ct39), sl39⟩)
    (c39 : PySem.W.codeIn K cd39 "_law_spoilt" = true)
    (k39 : PySem.W.keepIn K (.ref f39) = true)
    (a40 : PySem.W.nsIn K mainGlobals "_law_asked" = some (some (.ref f40)))
    (l40 : K.lookup f40 = some ⟨oc40, od40, .func (PySem.W.fnOf "_law_asked" "_law_asked" (defArgs sAsked) (defBody sAsked) (defScope sAsked) .none kV40 dc40 pm40 an40 cd40 ct40), sl40⟩)
    (c40 : PySem.W.codeIn K cd40 "_law_asked" = true)
    (k40 : PySem.W.keepIn K (.ref f40) = true)
    (a41 : PySem.W.nsIn K mainGlobals "_law_reworded" = some (some (.ref f41)))
    (l41 : K.lookup f41 = some ⟨oc41, od41, .func (PySem.W.fnOf "_law_reworded" "_law_reworded" (defArgs sRewd) (defBody sRewd) (defScope sRewd) .none kV41 dc41 pm41 an41 cd41 ct41), sl41⟩)
    (c41 : PySem.W.codeIn K cd41 "_law_reworded" = true)
    (k41 : PySem.W.keepIn K (.ref f41) = true)
    (a42 : PySem.W.nsIn K mainGlobals "_law_with_great" = some (some (.ref f42)))
    (l42 : K.lookup f42 = some ⟨oc42, od42, .func (PySem.W.fnOf "_law_with_great" "_law_with_great" (defArgs sGreat) (defBody sGreat) (defScope sGreat) .none kV42 dc42 pm42 an42 cd42 ct42), sl42⟩)
    (c42 : PySem.W.codeIn K cd42 "_law_with_great" = true)
    (k42 : PySem.W.keepIn K (.ref f42) = true)
    (a43 : PySem.W.nsIn K mainGlobals "law" = some (some (.ref f43)))
    (l43 : K.lookup f43 = some ⟨oc43, od43, .func (PySem.W.fnOf "law" "law" (defArgs sLaw) (defBody sLaw) (defScope sLaw) .none kV43 dc43 pm43 an43 cd43 ct43), sl43⟩)
    (c43 : PySem.W.codeIn K cd43 "law" = true)
    (k43 : PySem.W.keepIn K (.ref f43) = true)
    (aOn : PySem.W.nsIn K mainGlobals "ONE" = some (some (.ref aO)))
    (lO : K.lookup aO = some ⟨.type "tuple", odO, .seq #[.int 1 tO0, .int 1 tO1] nO, slO⟩)
    (aMn : PySem.W.nsIn K mainGlobals "MINUS_ONE" = some (some (.ref aM)))
    (lM : K.lookup aM = some ⟨.type "tuple", odM, .seq #[.int (-1) tM0, .int 1 tM1] nM, slM⟩)
    (aMo : PySem.W.nsIn K mainGlobals "MOST_FIGURES" = some (some (.int 30 tMo)))
    (aFi : PySem.W.nsIn K mainGlobals "FIGURES" = some (some (.str "0123456789" tFi)))
    (aNn : PySem.W.nsIn K mainGlobals "NOUGHT" = some (some (.ref aN)))
    (lN : K.lookup aN = some ⟨.type "tuple", odN, .seq #[.int 0 tN0, .int 1 tN1] nN, slN⟩)
    (aSb : PySem.W.nsIn K mainGlobals "SHORT_BITS" = some (some (.int 256 tSb)))
    (aLn : PySem.W.nsIn K mainGlobals "LONGEST" = some (some (.int 6 tL)))
    (aAn : PySem.W.nsIn K mainGlobals "LETTERS" = some (some (.str abc tA)))
    (aSn : PySem.W.nsIn K mainGlobals "SORTS" = some (some (.ref aS)))
    (lS : K.lookup aS = some ⟨.type "tuple", odS, .seq #[.str "is" tS0, .str "most" tS1, .str "least" tS2, .str "below" tS3, .str "above" tS4] nS, slS⟩)
    (g_q0 : PySem.W.nsIn K mainGlobals "NoFraction" = some (some (.ref q0)))
    (g_q1 : PySem.W.nsIn K mainGlobals "NoRow" = some (some (.ref q1)))
    (g_q2 : PySem.W.nsIn K mainGlobals "NoName" = some (some (.ref q2)))
    (g_q3 : PySem.W.nsIn K mainGlobals "Stands" = some (some (.ref q3)))
    (g_q4 : PySem.W.nsIn K mainGlobals "Full" = some (some (.ref q4)))
    (g_q5 : PySem.W.nsIn K mainGlobals "NoLevel" = some (some (.ref q5)))
    (g_q6 : PySem.W.nsIn K mainGlobals "NoMark" = some (some (.ref q6)))
    (g_q7 : PySem.W.nsIn K mainGlobals "NothingDone" = some (some (.ref q7)))
    (g_q8 : PySem.W.nsIn K mainGlobals "NoPoint" = some (some (.ref q8)))
    (g_q9 : PySem.W.nsIn K mainGlobals "NoStep" = some (some (.ref q9)))
    (g_q10 : PySem.W.nsIn K mainGlobals "NoNumber" = some (some (.ref q10)))
    (g_q11 : PySem.W.nsIn K mainGlobals "NoNames" = some (some (.ref q11)))
    (g_q12 : PySem.W.nsIn K mainGlobals "NoText" = some (some (.ref q12)))
    (g_q13 : PySem.W.nsIn K mainGlobals "NoLine" = some (some (.ref q13)))
    (g_q14 : PySem.W.nsIn K mainGlobals "NoWord" = some (some (.ref q14)))
    (g_q15 : PySem.W.nsIn K mainGlobals "StoreError" = some (some (.ref q15)))
    (e_exc : excAll K [q0, q1, q2, q3, q4, q5, q6, q7, q8, q9, q10, q11, q12, q13, q14, q15] = true)
    (e_kit : kitAll K [q0, q1, q2, q3, q4, q5, q6, q7, q8, q9, q10, q11, q12, q13, q14, q15] = true)
    (i_hn : PySem.W.specialIn K (.builtin "object.__class__") "__get__" = some (some (.builtin "getset_descriptor.__get__")))
    (i_ht : PySem.W.takesIn K (.builtin "object.__class__") = some true)
    (z_ValueError : PySem.W.nsIn K mainGlobals "ValueError" = some none)
    (z_abs : PySem.W.nsIn K mainGlobals "abs" = some none)
    (z_all : PySem.W.nsIn K mainGlobals "all" = some none)
    (z_dict : PySem.W.nsIn K mainGlobals "dict" = some none)
    (z_enumerate : PySem.W.nsIn K mainGlobals "enumerate" = some none)
    (z_int : PySem.W.nsIn K mainGlobals "int" = some none)
    (z_isinstance : PySem.W.nsIn K mainGlobals "isinstance" = some none)
    (z_len : PySem.W.nsIn K mainGlobals "len" = some none)
    (z_list : PySem.W.nsIn K mainGlobals "list" = some none)
    (z_max : PySem.W.nsIn K mainGlobals "max" = some none)
    (z_range : PySem.W.nsIn K mainGlobals "range" = some none)
    (z_sorted : PySem.W.nsIn K mainGlobals "sorted" = some none)
    (z_str : PySem.W.nsIn K mainGlobals "str" = some none)
    : LamX.LawAtS l w K CX0 9 63 "_law_script" mg fa h := by
  have e := hfa.symm.trans (PySem.W.mg_of X G a43)
  cases e
  have F0 := fun_mk (st := sCd) l0 c0 k0
  have b0 := F0.binds (ps := ["a", "b"]) fun _ _ _ _ _ _ us hl => match us, hl with | [_, _], _ => rfl
  have m0 := PySem.W.mg_of X G a0
  have F1 : FunD K "fraction_of" "fraction_of" (defArgs sFo) (defBody sFo) (defScope sFo) [.int 1] [] f1 _ := ⟨⟨oc1, od1, .ref T1, kV1, dc1, pm1, an1, cd1, ct1, sl1, rfl, l1, c1, .inr ⟨by decide, T1, _, [.int 1 tT1], nT1, rfl, t1, rfl, .cons ⟨_, rfl⟩ .nil⟩, .inl rfl⟩, k1⟩
  obtain ⟨ds1, vd1, b1⟩ := F1.binds1 (ps := ["top", "bottom"]) 2 1 (by decide) rfl fun T kV doc pm an cdv ct us its hl hi => match us, its, hl, hi with | [_, _], [_], _, _ => ⟨_, rfl, rfl⟩
  have m1 := PySem.W.mg_of X G a1
  have F2 := fun_mk (st := sAre) l2 c2 k2
  have b2 := F2.binds (ps := ["a", "b"]) fun _ _ _ _ _ _ us hl => match us, hl with | [_, _], _ => rfl
  have m2 := PySem.W.mg_of X G a2
  have F3 := fun_mk (st := sPlus) l3 c3 k3
  have b3 := F3.binds (ps := ["a", "b"]) fun _ _ _ _ _ _ us hl => match us, hl with | [_, _], _ => rfl
  have m3 := PySem.W.mg_of X G a3
  have F4 := fun_mk (st := sTimes) l4 c4 k4
  have b4 := F4.binds (ps := ["a", "b"]) fun _ _ _ _ _ _ us hl => match us, hl with | [_, _], _ => rfl
  have m4 := PySem.W.mg_of X G a4
  have F5 := fun_mk (st := sWn) l5 c5 k5
  have b5 := F5.binds (ps := ["numbers"]) fun _ _ _ _ _ _ us hl => match us, hl with | [_], _ => rfl
  have m5 := PySem.W.mg_of X G a5
  have F6 := fun_mk (st := sSumOf) l6 c6 k6
  have b6 := F6.binds (ps := ["pairs"]) fun _ _ _ _ _ _ us hl => match us, hl with | [_], _ => rfl
  have m6 := PySem.W.mg_of X G a6
  have F7 := fun_mk (st := sFitsU) l7 c7 k7
  have b7 := F7.binds (ps := ["thing"]) fun _ _ _ _ _ _ us hl => match us, hl with | [_], _ => rfl
  have m7 := PySem.W.mg_of X G a7
  have F8 := fun_mk (st := sFtx) l8 c8 k8
  have b8 := F8.binds (ps := ["number"]) fun _ _ _ _ _ _ us hl => match us, hl with | [_], _ => rfl
  have m8 := PySem.W.mg_of X G a8
  have F9 := fun_mk (st := sTmx) l9 c9 k9
  have b9 := F9.binds (ps := ["unknown", "number"]) fun _ _ _ _ _ _ us hl => match us, hl with | [_, _], _ => rfl
  have m9 := PySem.W.mg_of X G a9
  have F10 := fun_mk (st := sSmx) l10 c10 k10
  have b10 := F10.binds (ps := ["one"]) fun _ _ _ _ _ _ us hl => match us, hl with | [_], _ => rfl
  have m10 := PySem.W.mg_of X G a10
  have F11 := fun_mk (st := sRdW) l11 c11 k11
  have b11 := F11.binds (ps := ["text"]) fun _ _ _ _ _ _ us hl => match us, hl with | [_], _ => rfl
  have m11 := PySem.W.mg_of X G a11
  have F12 := fun_mk (st := sRdF) l12 c12 k12
  have b12 := F12.binds (ps := ["text"]) fun _ _ _ _ _ _ us hl => match us, hl with | [_], _ => rfl
  have m12 := PySem.W.mg_of X G a12
  have F13 := fun_mk (st := sRdT) l13 c13 k13
  have b13 := F13.binds (ps := ["words"]) fun _ _ _ _ _ _ us hl => match us, hl with | [_], _ => rfl
  have m13 := PySem.W.mg_of X G a13
  have F14 := fun_mk (st := sRdS) l14 c14 k14
  have b14 := F14.binds (ps := ["text"]) fun _ _ _ _ _ _ us hl => match us, hl with | [_], _ => rfl
  have m14 := PySem.W.mg_of X G a14
  have F15 := fun_mk (st := sRdR) l15 c15 k15
  have b15 := F15.binds (ps := ["text"]) fun _ _ _ _ _ _ us hl => match us, hl with | [_], _ => rfl
  have m15 := PySem.W.mg_of X G a15
  have F16 := fun_mk (st := sFresh) l16 c16 k16
  have b16 := F16.binds (ps := ["_law_script"]) fun _ _ _ _ _ _ us hl => match us, hl with | [_], _ => rfl
  have m16 := PySem.W.mg_of X G a16
  have F17 := fun_mk (st := sMixed) l17 c17 k17
  have b17 := F17.binds (ps := ["_law_seed"]) fun _ _ _ _ _ _ us hl => match us, hl with | [_], _ => rfl
  have m17 := PySem.W.mg_of X G a17
  have F18 := fun_mk (st := sFill) l18 c18 k18
  have b18 := F18.binds (ps := ["_law_state"]) fun _ _ _ _ _ _ us hl => match us, hl with | [_], _ => rfl
  have m18 := PySem.W.mg_of X G a18
  have F19 := fun_mk (st := sTake) l19 c19 k19
  have b19 := F19.binds (ps := ["_law_state", "_law_many"]) fun _ _ _ _ _ _ us hl => match us, hl with | [_, _], _ => rfl
  have m19 := PySem.W.mg_of X G a19
  have F20 := fun_mk (st := sSh) l20 c20 k20
  have b20 := F20.binds (ps := ["_law_one", "_law_other"]) fun _ _ _ _ _ _ us hl => match us, hl with | [_, _], _ => rfl
  have m20 := PySem.W.mg_of X G a20
  have F21 := fun_mk (st := sFrac) l21 c21 k21
  have b21 := F21.binds (ps := ["_law_top", "_law_bottom"]) fun _ _ _ _ _ _ us hl => match us, hl with | [_, _], _ => rfl
  have m21 := PySem.W.mg_of X G a21
  have F22 := fun_mk (st := sTurned) l22 c22 k22
  have b22 := F22.binds (ps := ["_law_a"]) fun _ _ _ _ _ _ us hl => match us, hl with | [_], _ => rfl
  have m22 := PySem.W.mg_of X G a22
  have F23 := fun_mk (st := sIsName) l23 c23 k23
  have b23 := F23.binds (ps := ["_law_thing"]) fun _ _ _ _ _ _ us hl => match us, hl with | [_], _ => rfl
  have m23 := PySem.W.mg_of X G a23
  have F24 := fun_mk (st := sSname) l24 c24 k24
  have b24 := F24.binds (ps := ["_law_state"]) fun _ _ _ _ _ _ us hl => match us, hl with | [_], _ => rfl
  have m24 := PySem.W.mg_of X G a24
  have F25 := fun_mk (st := sNames) l25 c25 k25
  have b25 := F25.binds (ps := ["_law_state", "_law_many"]) fun _ _ _ _ _ _ us hl => match us, hl with | [_, _], _ => rfl
  have m25 := PySem.W.mg_of X G a25
  have F26 := fun_mk (st := sNumber) l26 c26 k26
  have b26 := F26.binds (ps := ["_law_state"]) fun _ _ _ _ _ _ us hl => match us, hl with | [_], _ => rfl
  have m26 := PySem.W.mg_of X G a26
  have F27 := fun_mk (st := sSsum) l27 c27 k27
  have b27 := F27.binds (ps := ["_law_state", "_law_unknowns"]) fun _ _ _ _ _ _ us hl => match us, hl with | [_, _], _ => rfl
  have m27 := PySem.W.mg_of X G a27
  have F28 := fun_mk (st := sKind) l28 c28 k28
  have b28 := F28.binds (ps := ["_law_e"]) fun _ _ _ _ _ _ us hl => match us, hl with | [_], _ => rfl
  have m28 := PySem.W.mg_of X G a28
  have F29 := fun_mk (st := sAnyRow) l29 c29 k29
  have b29 := F29.binds (ps := ["_law_state", "_law_unknowns"]) fun _ _ _ _ _ _ us hl => match us, hl with | [_, _], _ => rfl
  have m29 := PySem.W.mg_of X G a29
  have F30 := fun_mk (st := sLFtx) l30 c30 k30
  have b30 := F30.binds (ps := ["_law_number_here"]) fun _ _ _ _ _ _ us hl => match us, hl with | [_], _ => rfl
  have m30 := PySem.W.mg_of X G a30
  have F31 := fun_mk (st := sLSmx) l31 c31 k31
  have b31 := F31.binds (ps := ["_law_one"]) fun _ _ _ _ _ _ us hl => match us, hl with | [_], _ => rfl
  have m31 := PySem.W.mg_of X G a31
  have F32 := fun_mk (st := sLRwx) l32 c32 k32
  have b32 := F32.binds (ps := ["_law_row"]) fun _ _ _ _ _ _ us hl => match us, hl with | [_], _ => rfl
  have m32 := PySem.W.mg_of X G a32
  have F33 := fun_mk (st := sFigs) l33 c33 k33
  have b33 := F33.binds (ps := ["_law_word"]) fun _ _ _ _ _ _ us hl => match us, hl with | [_], _ => rfl
  have m33 := PySem.W.mg_of X G a33
  have F34 := fun_mk (st := sRdN) l34 c34 k34
  have b34 := F34.binds (ps := ["_law_text"]) fun _ _ _ _ _ _ us hl => match us, hl with | [_], _ => rfl
  have m34 := PySem.W.mg_of X G a34
  have F35 := fun_mk (st := sLTerm) l35 c35 k35
  have b35 := F35.binds (ps := ["_law_words", "_law_at"]) fun _ _ _ _ _ _ us hl => match us, hl with | [_, _], _ => rfl
  have m35 := PySem.W.mg_of X G a35
  have F36 := fun_mk (st := sRdWs) l36 c36 k36
  have b36 := F36.binds (ps := ["_law_text"]) fun _ _ _ _ _ _ us hl => match us, hl with | [_], _ => rfl
  have m36 := PySem.W.mg_of X G a36
  have F37 := fun_mk (st := sRdTd) l37 c37 k37
  have b37 := F37.binds (ps := ["_law_text"]) fun _ _ _ _ _ _ us hl => match us, hl with | [_], _ => rfl
  have m37 := PySem.W.mg_of X G a37
  have F38 := fun_mk (st := sSign) l38 c38 k38
  have b38 := F38.binds (ps := ["_law_state"]) fun _ _ _ _ _ _ us hl => match us, hl with | [_], _ => rfl
  have m38 := PySem.W.mg_of X G a38
  have F39 := fun_mk (st := sSpoilt) l39 c39 k39
  have b39 := F39.binds (ps := ["_law_state", "_law_text"]) fun _ _ _ _ _ _ us hl => match us, hl with | [_, _], _ => rfl
  have m39 := PySem.W.mg_of X G a39
  have F40 := fun_mk (st := sAsked) l40 c40 k40
  have b40 := F40.binds (ps := ["_law_way", "_law_text"]) fun _ _ _ _ _ _ us hl => match us, hl with | [_, _], _ => rfl
  have m40 := PySem.W.mg_of X G a40
  have F41 := fun_mk (st := sRewd) l41 c41 k41
  have b41 := F41.binds (ps := ["_law_state", "_law_text"]) fun _ _ _ _ _ _ us hl => match us, hl with | [_, _], _ => rfl
  have m41 := PySem.W.mg_of X G a41
  have F42 := fun_mk (st := sGreat) l42 c42 k42
  have b42 := F42.binds (ps := ["_law_state", "_law_row"]) fun _ _ _ _ _ _ us hl => match us, hl with | [_, _], _ => rfl
  have m42 := PySem.W.mg_of X G a42
  have F43 := fun_mk (st := sLaw) l43 c43 k43
  have n_ValueError := PySem.W.mg_none_of X G z_ValueError
  have n_abs := PySem.W.mg_none_of X G z_abs
  have n_all := PySem.W.mg_none_of X G z_all
  have n_dict := PySem.W.mg_none_of X G z_dict
  have n_enumerate := PySem.W.mg_none_of X G z_enumerate
  have n_int := PySem.W.mg_none_of X G z_int
  have n_isinstance := PySem.W.mg_none_of X G z_isinstance
  have n_len := PySem.W.mg_none_of X G z_len
  have n_list := PySem.W.mg_none_of X G z_list
  have n_max := PySem.W.mg_none_of X G z_max
  have n_range := PySem.W.mg_none_of X G z_range
  have n_sorted := PySem.W.mg_none_of X G z_sorted
  have n_str := PySem.W.mg_none_of X G z_str
  have tt7 := tb "fits_unknown" (by decide +kernel) cc7 PP7 (tabIn_of a7 l7 rfl lc7 pp7)
  have tt11 := tb "read_whole" (by decide +kernel) cc11 PP11 (tabIn_of a11 l11 rfl lc11 pp11)
  have hT : ∀ p ∈ ([(cc7, PP7), (cc11, PP11)] : List (Addr × Addr)), h.get? p.2 = some { cls := .none, data := .fields #[] } ∧ K.lookup p.2 = none ∧ PySem.W.CodeHd h p.1 p.2 := fun p hp => by
    simp only [List.mem_cons, List.not_mem_nil, or_false] at hp
    rcases hp with rfl | rfl
    · exact ⟨tt7.2, np7, tt7.1⟩
    · exact ⟨tt11.2, np11, tt11.1⟩
  refine ⟨PySem.W.fnOf "law" "law" (defArgs sLaw) (defBody sLaw) (defScope sLaw) .none kV43 dc43 pm43 an43 cd43 ct43, [(cc7, PP7), (cc11, PP11)], spLaw K [PP7, PP11], fun p hp => (hT p hp).1, fun p hp => (hT p hp).2.1, fun p hp => (hT p hp).2.2, fun s v => .of_eq rfl, fun H a ns _ _ hH hS => ⟨a, ns, rfl, hS, tabs_nil (fun P hP => ?_), fun _ => rfl⟩, fun base _ _ TB => ?_⟩
  · have z : ∃ c, (c, P) ∈ ([(cc7, PP7), (cc11, PP11)] : List (Addr × Addr)) := by
      simp only [List.mem_cons, List.not_mem_nil, or_false] at hP
      rcases hP with rfl | rfl
      · exact ⟨cc7, by simp⟩
      · exact ⟨cc11, by simp⟩
    obtain ⟨c, hc⟩ := z
    exact hH (c, P) hc
  · have hO : ∀ H, FrT K H aO 1 1 := fun H => ⟨.inr ⟨_, _, _, lO, rfl, rfl, (by show 2 ≤ sizeLine; decide), .cons ⟨_, rfl⟩ (.cons ⟨_, rfl⟩ .nil)⟩, .kTuple lO rfl⟩
    have gO := PySem.W.mg_of X G aOn
    have hM : ∀ H, FrT K H aM (-1) 1 := fun H => ⟨.inr ⟨_, _, _, lM, rfl, rfl, (by show 2 ≤ sizeLine; decide), .cons ⟨_, rfl⟩ (.cons ⟨_, rfl⟩ .nil)⟩, .kTuple lM rfl⟩
    have gM := PySem.W.mg_of X G aMn
    have gMo := PySem.W.mg_of X G aMo
    have gFi := PySem.W.mg_of X G aFi
    have hN : ∀ H, FrT K H aN 0 1 := fun H => ⟨.inr ⟨_, _, _, lN, rfl, rfl, (by show 2 ≤ sizeLine; decide), .cons ⟨_, rfl⟩ (.cons ⟨_, rfl⟩ .nil)⟩, .kTuple lN rfl⟩
    have gN := PySem.W.mg_of X G aNn
    have gSb := PySem.W.mg_of X G aSb
    have gL := PySem.W.mg_of X G aLn
    have gA := PySem.W.mg_of X G aAn
    have hS : ∀ H, SqT K H aS (sorts.map V.str) := fun H => .inr ⟨_, _, _, lS, rfl, rfl, (by show 5 ≤ sizeLine; decide), .cons ⟨_, rfl⟩ (.cons ⟨_, rfl⟩ (.cons ⟨_, rfl⟩ (.cons ⟨_, rfl⟩ (.cons ⟨_, rfl⟩ .nil))))⟩
    have gS := PySem.W.mg_of X G aSn
    have T16 : C16 K mg (cl16 [q0, q1, q2, q3, q4, q5, q6, q7, q8, q9, q10, q11, q12, q13, q14, q15]) := c16_mk e_exc e_kit (fun i hi => match i, hi with | 0, _ => PySem.W.mg_of X G g_q0 | 1, _ => PySem.W.mg_of X G g_q1 | 2, _ => PySem.W.mg_of X G g_q2 | 3, _ => PySem.W.mg_of X G g_q3 | 4, _ => PySem.W.mg_of X G g_q4 | 5, _ => PySem.W.mg_of X G g_q5 | 6, _ => PySem.W.mg_of X G g_q6 | 7, _ => PySem.W.mg_of X G g_q7 | 8, _ => PySem.W.mg_of X G g_q8 | 9, _ => PySem.W.mg_of X G g_q9 | 10, _ => PySem.W.mg_of X G g_q10 | 11, _ => PySem.W.mg_of X G g_q11 | 12, _ => PySem.W.mg_of X G g_q12 | 13, _ => PySem.W.mg_of X G g_q13 | 14, _ => PySem.W.mg_of X G g_q14 | 15, _ => PySem.W.mg_of X G g_q15 | n + 16, hh => absurd hh (by omega)) i_hn i_ht
    have T_C : ExT K mg "NoFraction" (cl16 [q0, q1, q2, q3, q4, q5, q6, q7, q8, q9, q10, q11, q12, q13, q14, q15] 0) := T16.ext 0 (by decide)
    have T_T : ExT K mg "NoText" (cl16 [q0, q1, q2, q3, q4, q5, q6, q7, q8, q9, q10, q11, q12, q13, q14, q15] 12) := T16.ext 12 (by decide)
    have cd := Cl.mk0 (P := l.prog) (w := w) (base := base) (ok_cd (k := 0) F0 n_abs) m0 k0 b0
    cases vd1
    have fo := Cl.mk0 (P := l.prog) (w := w) (base := base) (ok_fo F1 T_C cd) m1 k1 b1
    have ar := Cl.mk0 (P := l.prog) (w := w) (base := base) (ok_are (k := 0) F2 gSb) m2 k2 b2
    have pl := Cl.mk0 (P := l.prog) (w := w) (base := base) (ok_plus F3 fo cd ar) m3 k3 b3
    have tm := Cl.mk0 (P := l.prog) (w := w) (base := base) (ok_times F4 fo cd ar) m4 k4 b4
    have wn := Cl.mk0 (P := l.prog) (w := w) (base := base) (ok_wn (k := 0) F5 gN hN) m5 k5 b5
    have su := Cl.mk0 (P := l.prog) (w := w) (base := base) (ok_sumof F6 gN hN pl wn) m6 k6 b6
    have fu := Cl.mk0 (P := l.prog) (w := w) (base := base) (ok_fitsu (T := [PP7, PP11]) F7 rfl (tbOf (TB (cc7, PP7) (by simp))) (by simp) n_isinstance n_str n_len n_all gL gA) m7 k7 b7
    have ft := Cl.mk0 (P := l.prog) (w := w) (base := base) (ok_ftx (k := 0) F8 n_str) m8 k8 b8
    have tx := Cl.mk0 (P := l.prog) (w := w) (base := base) (ok_tmx F9 n_abs gO hO ft) m9 k9 b9
    have sx := Cl.mk0 (P := l.prog) (w := w) (base := base) (ok_smx F10 n_sorted tx) m10 k10 b10
    have rw_ := Cl.mk0 (P := l.prog) (w := w) (base := base) (ok_rdw (T := [PP7, PP11]) F11 rfl (tbOf (TB (cc11, PP11) (by simp))) (by simp) n_len n_all n_int gMo gFi T_T) m11 k11 b11
    have rf := Cl.mk0 (P := l.prog) (w := w) (base := base) (ok_rdf (T := [PP7, PP11]) F12 T_T gM hM rw_ fo tm ft) m12 k12 b12
    have rt := Cl.mk0 (P := l.prog) (w := w) (base := base) (ok_rdg (T := [PP7, PP11]) F13 T_T n_len gO hO gM hM fu rf tm) m13 k13 b13
    have rs := Cl.mk0 (P := l.prog) (w := w) (base := base) (ok_rdsg (T := [PP7, PP11]) F14 T_T rt su sx) m14 k14 b14
    have rr := Cl.mk0 (P := l.prog) (w := w) (base := base) (ok_rdrg (T := [PP7, PP11]) F15 T_T n_len gS hS rs rf) m15 k15 b15
    have fs := Cl.mk0 (P := l.prog) (w := w) (base := base) (ok_fresh (k := 0) F16 ) m16 k16 b16
    have mx := Cl.mk0 (P := l.prog) (w := w) (base := base) (ok_mixed (k := 0) F17 n_enumerate) m17 k17 b17
    have fl := Cl.mk0 (P := l.prog) (w := w) (base := base) (ok_fill F18 n_len mx) m18 k18 b18
    have tk := Cl.mk0 (P := l.prog) (w := w) (base := base) (ok_take F19 fl) m19 k19 b19
    have sh := Cl.mk0 (P := l.prog) (w := w) (base := base) (ok_sh (k := 0) F20 n_abs) m20 k20 b20
    have fc := Cl.mk0 (P := l.prog) (w := w) (base := base) (ok_frac F21 sh) m21 k21 b21
    have tu := Cl.mk0 (P := l.prog) (w := w) (base := base) (ok_turned (k := 0) F22 ) m22 k22 b22
    have isn := Cl.mk0 (P := l.prog) (w := w) (base := base) (ok_isnameB (k := 0) F23 n_isinstance n_str n_len n_all) m23 k23 b23
    have sn := Cl.mk0 (P := l.prog) (w := w) (base := base) (ok_sname F24 n_range tk) m24 k24 b24
    have nn := Cl.mk0 (P := l.prog) (w := w) (base := base) (ok_names F25 n_range sn) m25 k25 b25
    have nm := Cl.mk0 (P := l.prog) (w := w) (base := base) (ok_number F26 tk fc) m26 k26 b26
    have ss := Cl.mk0 (P := l.prog) (w := w) (base := base) (ok_ssum F27 n_len tk nm) m27 k27 b27
    have kd12 : ∀ (a : Addr) (oe : Obj), Zc (.ref (cl16 [q0, q1, q2, q3, q4, q5, q6, q7, q8, q9, q10, q11, q12, q13, q14, q15] 12)) none oe → (∃ vs, oe.data = .fields vs) → ClP l.prog w K mg base 1 "_law_kind" (spKind a 12) (a, oe) := fun a oe hz hf => ⟨⟨_, _, _, ok_kind (k := 0) F28 T16 n_isinstance n_ValueError (by decide) hz hf, m28, k28, b28⟩⟩
    have anr := Cl.mk0 (P := l.prog) (w := w) (base := base) (ok_anyrow F29 n_dict n_list ss tk nm) m29 k29 b29
    have lft := Cl.mk0 (P := l.prog) (w := w) (base := base) (ok_lftx (k := 0) F30 n_str) m30 k30 b30
    have ls := Cl.mk0 (P := l.prog) (w := w) (base := base) (ok_lsmx F31 n_sorted n_abs n_int lft) m31 k31 b31
    have lr := Cl.mk0 (P := l.prog) (w := w) (base := base) (ok_lrwx F32 ls lft) m32 k32 b32
    have fg := Cl.mk0 (P := l.prog) (w := w) (base := base) (ok_figs (k := 0) F33 n_len n_all n_int) m33 k33 b33
    have rn := Cl.mk0 (P := l.prog) (w := w) (base := base) (ok_rdn F34 n_int n_len fg sh) m34 k34 b34
    have lt := Cl.mk0 (P := l.prog) (w := w) (base := base) (ok_lterm F35 n_len isn rn) m35 k35 b35
    have ws := Cl.mk0 (P := l.prog) (w := w) (base := base) (ok_rdws F36 n_int n_len n_max lt tu) m36 k36 b36
    have td := Cl.mk0 (P := l.prog) (w := w) (base := base) (ok_rdtd F37 n_len ws rn) m37 k37 b37
    have sg := Cl.mk0 (P := l.prog) (w := w) (base := base) (ok_sign F38 n_len tk) m38 k38 b38
    have so := Cl.mk0 (P := l.prog) (w := w) (base := base) (ok_spoilt F39 n_len tk sg) m39 k39 b39
    have ak := Cl.mk0 (P := l.prog) (w := w) (base := base) (ok_asked (T := [PP7, PP11]) F40 T16 rs rr kd12) m40 k40 b40
    have rw2 := Cl.mk0 (P := l.prog) (w := w) (base := base) (ok_rewd F41 n_len tk) m41 k41 b41
    have gr := Cl.mk0 (P := l.prog) (w := w) (base := base) (ok_great F42 n_sorted n_len n_dict tk fc) m42 k42 b42
    exact ok_law F43 n_range fs nn tk anr gr ls lr rw2 so ws td ak
end SS
open PySem PySem.W PyProof.Rows
set_option maxRecDepth 100000 in
set_option maxHeartbeats 0 in
theorem PySem.Challenge.cw_scopestore_k86_sum_and_row_texts_holds : PySem.Challenge.rw_scopestore_k86_sum_and_row_texts.Holds := by
  w_on; o_law; k_head; (case hw => w_witness2)
  k_fill
  refine SS.walk_ofN (l := PySem.Challenge.rw_scopestore_k86_sum_and_row_texts) (n := 63) (k := 9) (x := "_law_script") (CX := fun _ => L2.CX0) ["fits_unknown", "read_whole"] rfl (by decide) rfl ⟨rfl, by decide, by decide⟩ ?R (fun w h Y => PySem.W.kIn_of Y) ?F (fun _ _ _ _ _ h => h)
  case R => first | decide +kernel | (intro x hx; simp only [List.mem_cons, List.not_mem_nil, or_false] at hx; rcases hx with rfl | rfl <;> first | rfl | decide +kernel)
  case F =>
    intro w mg fa h KX G hmg tb
    refine' SS.all_mk KX G hmg tb ?a0 ?l0 ?c0 ?k0 ?a1 ?l1 ?t1 ?c1 ?k1 ?a2 ?l2 ?c2 ?k2 ?a3 ?l3 ?c3 ?k3 ?a4 ?l4 ?c4 ?k4 ?a5 ?l5 ?c5 ?k5 ?a6 ?l6 ?c6 ?k6 ?a7 ?l7 ?c7 ?k7 ?lc7 ?pp7 ?np7 ?a8 ?l8 ?c8 ?k8 ?a9 ?l9 ?c9 ?k9 ?a10 ?l10 ?c10 ?k10 ?a11 ?l11 ?c11 ?k11 ?lc11 ?pp11 ?np11 ?a12 ?l12 ?c12 ?k12 ?a13 ?l13 ?c13 ?k13 ?a14 ?l14 ?c14 ?k14 ?a15 ?l15 ?c15 ?k15 ?a16 ?l16 ?c16 ?k16 ?a17 ?l17 ?c17 ?k17 ?a18 ?l18 ?c18 ?k18 ?a19 ?l19 ?c19 ?k19 ?a20 ?l20 ?c20 ?k20 ?a21 ?l21 ?c21 ?k21 ?a22 ?l22 ?c22 ?k22 ?a23 ?l23 ?c23 ?k23 ?a24 ?l24 ?c24 ?k24 ?a25 ?l25 ?c25 ?k25 ?a26 ?l26 ?c26 ?k26 ?a27 ?l27 ?c27 ?k27 ?a28 ?l28 ?c28 ?k28 ?a29 ?l29 ?c29 ?k29 ?a30 ?l30 ?c30 ?k30 ?a31 ?l31 ?c31 ?k31 ?a32 ?l32 ?c32 ?k32 ?a33 ?l33 ?c33 ?k33 ?a34 ?l34 ?c34 ?k34 ?a35 ?l35 ?c35 ?k35 ?a36 ?l36 ?c36 ?k36 ?a37 ?l37 ?c37 ?k37 ?a38 ?l38 ?c38 ?k38 ?a39 ?l39 ?c39 ?k39 ?a40 ?l40 ?c40 ?k40 ?a41 ?l41 ?c41 ?k41 ?a42 ?l42 ?c42 ?k42 ?a43 ?l43 ?c43 ?k43 ?aOn ?lO ?aMn ?lM ?aMo ?aFi ?aNn ?lN ?aSb ?aLn ?aAn ?aSn ?lS ?g_q0 ?g_q1 ?g_q2 ?g_q3 ?g_q4 ?g_q5 ?g_q6 ?g_q7 ?g_q8 ?g_q9 ?g_q10 ?g_q11 ?g_q12 ?g_q13 ?g_q14 ?g_q15 ?e_exc ?e_kit ?i_hn ?i_ht ?z_ValueError ?z_abs ?z_all ?z_dict ?z_enumerate ?z_int ?z_isinstance ?z_len ?z_list ?z_max ?z_range ?z_sorted ?z_str
    (case a0 => k_is)
    (case l0 => k_is)
    (case c0 => k_is)
    (case k0 => k_is)
    (case a1 => k_is)
    (case l1 => k_is)
    (case t1 => k_is)
    (case c1 => k_is)
    (case k1 => k_is)
    (case a2 => k_is)
    (case l2 => k_is)
    (case c2 => k_is)
    (case k2 => k_is)
    (case a3 => k_is)
    (case l3 => k_is)
    (case c3 => k_is)
    (case k3 => k_is)
    (case a4 => k_is)
    (case l4 => k_is)
    (case c4 => k_is)
    (case k4 => k_is)
    (case a5 => k_is)
    (case l5 => k_is)
    (case c5 => k_is)
    (case k5 => k_is)
    (case a6 => k_is)
    (case l6 => k_is)
    (case c6 => k_is)
    (case k6 => k_is)
    (case a7 => k_is)
    (case l7 => k_is)
    (case c7 => k_is)
    (case k7 => k_is)
    (case lc7 => k_is)
    (case pp7 => rfl)
    (case np7 => first | k_is | rfl | (with_unfolding_all rfl) | decide +kernel)
    (case a8 => k_is)
    (case l8 => k_is)
    (case c8 => k_is)
    (case k8 => k_is)
    (case a9 => k_is)
    (case l9 => k_is)
    (case c9 => k_is)
    (case k9 => k_is)
    (case a10 => k_is)
    (case l10 => k_is)
    (case c10 => k_is)
    (case k10 => k_is)
    (case a11 => k_is)
    (case l11 => k_is)
    (case c11 => k_is)
    (case k11 => k_is)
    (case lc11 => k_is)
    (case pp11 => rfl)
    (case np11 => first | k_is | rfl | (with_unfolding_all rfl) | decide +kernel)
    (case a12 => k_is)
    (case l12 => k_is)
    (case c12 => k_is)
    (case k12 => k_is)
    (case a13 => k_is)
    (case l13 => k_is)
    (case c13 => k_is)
    (case k13 => k_is)
    (case a14 => k_is)
    (case l14 => k_is)
    (case c14 => k_is)
    (case k14 => k_is)
    (case a15 => k_is)
    (case l15 => k_is)
    (case c15 => k_is)
    (case k15 => k_is)
    (case a16 => k_is)
    (case l16 => k_is)
    (case c16 => k_is)
    (case k16 => k_is)
    (case a17 => k_is)
    (case l17 => k_is)
    (case c17 => k_is)
    (case k17 => k_is)
    (case a18 => k_is)
    (case l18 => k_is)
    (case c18 => k_is)
    (case k18 => k_is)
    (case a19 => k_is)
    (case l19 => k_is)
    (case c19 => k_is)
    (case k19 => k_is)
    (case a20 => k_is)
    (case l20 => k_is)
    (case c20 => k_is)
    (case k20 => k_is)
    (case a21 => k_is)
    (case l21 => k_is)
    (case c21 => k_is)
    (case k21 => k_is)
    (case a22 => k_is)
    (case l22 => k_is)
    (case c22 => k_is)
    (case k22 => k_is)
    (case a23 => k_is)
    (case l23 => k_is)
    (case c23 => k_is)
    (case k23 => k_is)
    (case a24 => k_is)
    (case l24 => k_is)
    (case c24 => k_is)
    (case k24 => k_is)
    (case a25 => k_is)
    (case l25 => k_is)
    (case c25 => k_is)
    (case k25 => k_is)
    (case a26 => k_is)
    (case l26 => k_is)
    (case c26 => k_is)
    (case k26 => k_is)
    (case a27 => k_is)
    (case l27 => k_is)
    (case c27 => k_is)
    (case k27 => k_is)
    (case a28 => k_is)
    (case l28 => k_is)
    (case c28 => k_is)
    (case k28 => k_is)
    (case a29 => k_is)
    (case l29 => k_is)
    (case c29 => k_is)
    (case k29 => k_is)
    (case a30 => k_is)
    (case l30 => k_is)
    (case c30 => k_is)
    (case k30 => k_is)
    (case a31 => k_is)
    (case l31 => k_is)
    (case c31 => k_is)
    (case k31 => k_is)
    (case a32 => k_is)
    (case l32 => k_is)
    (case c32 => k_is)
    (case k32 => k_is)
    (case a33 => k_is)
    (case l33 => k_is)
    (case c33 => k_is)
    (case k33 => k_is)
    (case a34 => k_is)
    (case l34 => k_is)
    (case c34 => k_is)
    (case k34 => k_is)
    (case a35 => k_is)
    (case l35 => k_is)
    (case c35 => k_is)
    (case k35 => k_is)
    (case a36 => k_is)
    (case l36 => k_is)
    (case c36 => k_is)
    (case k36 => k_is)
    (case a37 => k_is)
    (case l37 => k_is)
    (case c37 => k_is)
    (case k37 => k_is)
    (case a38 => k_is)
    (case l38 => k_is)
    (case c38 => k_is)
    (case k38 => k_is)
    (case a39 => k_is)
    (case l39 => k_is)
    (case c39 => k_is)
    (case k39 => k_is)
    (case a40 => k_is)
    (case l40 => k_is)
    (case c40 => k_is)
    (case k40 => k_is)
    (case a41 => k_is)
    (case l41 => k_is)
    (case c41 => k_is)
    (case k41 => k_is)
    (case a42 => k_is)
    (case l42 => k_is)
    (case c42 => k_is)
    (case k42 => k_is)
    (case a43 => k_is)
    (case l43 => k_is)
    (case c43 => k_is)
    (case k43 => k_is)
    (case aOn => k_is)
    (case lO => k_is)
    (case aMn => k_is)
    (case lM => k_is)
    (case aMo => k_is)
    (case aFi => k_is)
    (case aNn => k_is)
    (case lN => k_is)
    (case aSb => k_is)
    (case aLn => k_is)
    (case aAn => k_is)
    (case aSn => k_is)
    (case lS => k_is)
    (case g_q0 => k_is)
    (case g_q1 => k_is)
    (case g_q2 => k_is)
    (case g_q3 => k_is)
    (case g_q4 => k_is)
    (case g_q5 => k_is)
    (case g_q6 => k_is)
    (case g_q7 => k_is)
    (case g_q8 => k_is)
    (case g_q9 => k_is)
    (case g_q10 => k_is)
    (case g_q11 => k_is)
    (case g_q12 => k_is)
    (case g_q13 => k_is)
    (case g_q14 => k_is)
    (case g_q15 => k_is)
    (case e_exc => first | kernel_rfl | rfl)
    (case e_kit => first | kernel_rfl | rfl)
    (case i_hn => first | k_is | k_exc | rfl | decide +kernel)
    (case i_ht => first | k_is | k_exc | rfl | decide +kernel)
    (case z_ValueError => k_is)
    (case z_abs => k_is)
    (case z_all => k_is)
    (case z_dict => k_is)
    (case z_enumerate => k_is)
    (case z_int => k_is)
    (case z_isinstance => k_is)
    (case z_len => k_is)
    (case z_list => k_is)
    (case z_max => k_is)
    (case z_range => k_is)
    (case z_sorted => k_is)
    (case z_str => k_is)

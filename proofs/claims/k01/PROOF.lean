import PyProof.Rows.All
import Wide.All
import OpenK.AllK
import Wide.FinOn
import KE.GoesEnum
import HandS.ForMost
import HandS.ForExc
import HandS.Wide
import HandS.IsInst
import HandS.ExcIs
import HandS.Defaults
import HandS.RaiseMore
import PySem.Challenge.RW_scopestore_k01_fractions_made
set_option Elab.async false
set_option linter.all false
set_option maxRecDepth 100000
set_option exponentiation.threshold 10000
namespace SS
open PySem PySem.Spec PyProof.Rows L2
section
/-! ### enumerate over a tuple: one new pair a turn -/
def ItE (K : PySem.W.Frag) (a : Addr) : It where
  go := fun i H => ∃ (ys : List V) (y : V), SqT K H a ys ∧ ys[i]? = some y
  yld := fun i H v H' => ∃ T y, v = .ref T ∧ H T = none ∧ H' = upd H T (.tup [.int (i : Nat), y]) ∧ ∀ ys, SqT K H a ys → ys[i]? = some y
  stop := fun i H => ∃ ys : List V, SqT K H a ys ∧ ys.length = i
theorem turnE {P : Program} {w : World} {K : PySem.W.Frag} {es : List Expr} {kk : Nat} {tp : Pos} (a e q : Addr) :
    Turn P w K (.Tuple es kk tp) (ItE K a) [e, q] e (fun i h => (∃ old, IsEnum h e q ((i : Nat) : Int) old) ∧ h.IsTupleIter q a i ∧ e ≠ q ∧ a ≠ q ∧ e ≠ a) where
  mem := by simp
  obj := fun i h st b hb => by
    obtain ⟨⟨old, h1⟩, ⟨o, h2, _, h3⟩, _⟩ := st
    rcases (show b = e ∨ b = q by simpa using hb) with z | z
    · subst z
      exact ⟨_, h1, fun v w => nomatch w⟩
    · subst z
      exact ⟨o, h2, fun v w => by rw [h3] at w; cases w⟩
  keep := fun i h h' st k => by
    obtain ⟨⟨old, h1⟩, h2, h3⟩ := st
    exact ⟨⟨old, k e (by simp) _ h1⟩, h2.at (fun o z => k q (by simp) o z), h3⟩
  item := by
    intro X e1 e2 e3 calm i pins s σ H E I free st go
    subst e1 e2 e3
    obtain ⟨⟨old, h1⟩, h2, n1, n2, n3⟩ := st
    obtain ⟨ys, y, sq, gy⟩ := go
    obtain ⟨us, rl, at_, _⟩ := I.tuple sq
    obtain ⟨u, gu, ru⟩ := rl.get gy
    have lt : i < us.toArray.size := by
      have z := (List.getElem?_eq_some_iff.mp gu).1
      simpa using z
    have le : e < s.heap.objs.size := Heap.lt_size h1
    have lq : q < s.heap.objs.size := by
      obtain ⟨_, z, _⟩ := h2
      exact Heap.lt_size z
    refine wpAny_pyNext_enum_itemD (Draws.tuple (A := X.A.in1) (I.ok.hd calm) q a n2 us.toArray) h1
      ⟨h2, at_⟩ lt n1 (by simp [n1, n3]) fun u' h' tk pu ho st' hT hsz hk => ?_
    have eu : u' = u := by
      have z : us[i]? = some u' := by simpa using pu
      rw [gu] at z
      exact (Option.some.inj z).symm
    subst eu
    refine ⟨_, rfl, wpAny_letOwnedTupleGo_enum
      (s := { s with heap := h', toks := tk + 1 }) ho fun h2' he' sb => ?_⟩
    have T2 : h2'.get? s.heap.objs.size = some { cls := .type "tuple", data := .seq #[.int i tk, u'] } :=
      (sb.2 _ (Nat.ne_of_gt le)).trans hT
    have nw : ObjOk X.prog X.w (upd H s.heap.objs.size (.tup [.int (i : Nat), y])) h2' s.heap.objs.size (.tup [.int (i : Nat), y]) :=
      ⟨(by show 2 ≤ sizeLine; decide), [.int i tk, u'], .cons ⟨_, rfl⟩ (.cons ru .nil), ⟨_, T2, rfl, _, rfl⟩⟩
    have J : Inv X pins σ (upd H s.heap.objs.size (.tup [.int (i : Nat), y])) { s with heap := h2', toks := tk + 1 } :=
      I.turnedNew (ch := [e, q]) (fun b ob nb z => (sb.2 b (fun c => nb (by simp [c]))).trans (hk b ob (fun c => nb (by simp [c])) (fun c => nb (by simp [c])) z)) free (Nat.le_refl _) nw
    refine ⟨.ref s.heap.objs.size, _, J, rfl, ⟨_, y, rfl, I.hok.fresh (Nat.le_refl _), rfl, fun zs hz => by rw [I.tuple_inj hz sq]; exact gy⟩,
      ⟨⟨u', ?_⟩, st'.1.at (fun o z => (sb.2 q (Ne.symm n1)).trans z), n1, n2, n3⟩, fun b hb => ?_⟩
    · rw [show ((i + 1 : Nat) : Int) = (i : Int) + 1 by omega]
      exact he'
    · have lb : b < s.heap.objs.size := by
        rcases (show b = e ∨ b = q by simpa using hb) with z | z
        · rw [z]; exact le
        · rw [z]; exact lq
      rw [upd_ne (Nat.ne_of_lt lb)]
      exact (free b hb).1
  done := by
    intro X e1 e2 e3 calm i pins s σ H E I free st stp
    subst e1 e2 e3
    obtain ⟨⟨old, h1⟩, h2, n1, n2, n3⟩ := st
    obtain ⟨ys, sq, ly⟩ := stp
    obtain ⟨us, rl, at_, _⟩ := I.tuple sq
    obtain ⟨f0, f1, f2, f3, f4, f5⟩ := free q (by simp)
    have ll := rl.length
    have ei : us.toArray.size = i := by
      rw [List.size_toArray, ← ll]
      exact ly
    refine wpAny_pyNext_enum_endD (Draws.tuple (A := X.A.in1) (I.ok.hd calm) q a n2 us.toArray) h1 ⟨by rw [ei]; exact h2, at_⟩ fun h' ext => ?_
    exact ⟨rfl, I.turned (t' := s.toks) (fun b o hb z => ext b o hb z) f0 f1 f3 f4 f5⟩
  self := fun A i s Q E st h => by
    obtain ⟨⟨_, h1⟩, _⟩ := st
    exact wpAny_pyIter_enum h1 h

set_option maxHeartbeats 1000000 in
theorem meets_enumT (t : Addr) (items : Array Value) (n : Nat) (dct : Option Addr) (sl : Array (Option Value)) :
    Meets (Builtin.«enumerate.__new__» ⟨[.type "enumerate", .ref t], []⟩) (fun _ R s => s.heap.get? t = some { cls := .type "tuple", dict := dct, data := .seq items n, slots := sl } ∧
      R (.ok (.ret (.ref (s.heap.push { cls := .type "tuple_iterator", data := .fields #[.ref t, .int 0 0] }).objs.size)))
        { s with heap := (s.heap.push { cls := .type "tuple_iterator", data := .fields #[.ref t, .int 0 0] }).push { cls := .type "enumerate", data := .fields #[.none, .bool false, .ref s.heap.objs.size, rawInt 0, .none, .none] } }) :=
  .of_wp fun prog w A R s h => by
    obtain ⟨hp, g, d, tk, os⟩ := s
    obtain ⟨hl, h⟩ := h
    have hsub := sub_enumerate
    have hT : Heap.IsTuple (Shared.heap ⟨hp, g, d, tk, os⟩) t items := ⟨_, hl, rfl, n, rfl⟩
    wp_walk using AutoSeq1.wpAny_loadPart' hl
    refine wpAny_stack_any fun st => wpAny_pure ?_
    split
    · rename_i c _ _ _ _ _
      cases (c == Value.type "enumerate")
      · wp_walk using AutoSeq1.wpAny_loadPart' hl, wpAny_pyIter_tuple hT
        exact ⟨_, rfl, h⟩
      · wp_walk using AutoSeq1.wpAny_loadPart' hl, wpAny_pyIter_tuple hT
        exact ⟨_, rfl, h⟩
    · wp_walk using AutoSeq1.wpAny_loadPart' hl, wpAny_pyIter_tuple hT
      exact ⟨_, rfl, h⟩
theorem call_enumT {prog : Program} {w : World} {A : Around} {E : Value → Shared → Prop} {s : Shared} {t : Addr} {items : Array Value} {Q : Value → Shared → Prop} (hL : s.heap.IsTuple t items)
    (h : ∀ h', IsEnum h' (s.heap.objs.size + 1) s.heap.objs.size 0 .none → h'.IsTupleIter s.heap.objs.size t 0 →
      (∀ b o, s.heap.get? b = some o → h'.get? b = some o) → Q (.ref (s.heap.objs.size + 1)) { s with heap := h' }) :
    wpAny (model prog w) A (call (.type "enumerate") [.ref t]) Q E s := by
  obtain ⟨⟨c, dct, dt, sl⟩, hl, hc, n, hd⟩ := hL
  have hc' : c = .type "tuple" := hc
  have hd' : dt = .seq items n := hd
  subst hc' hd'
  refine callType_new F.called_enumerate (by decide) (F.typeCall_enumerate_1 _) (F.newCall_enumerate_1 _)
    (fun obj => F.args_object_init_2 obj _) F.entry_enumerate_new (meets_enumT t items n dct sl) ⟨hl, ?_⟩
  have z1 : (s.heap.push { cls := .type "tuple_iterator", data := .fields #[.ref t, .int 0 0] }).objs.size = s.heap.objs.size + 1 := Heap.size_push ..
  show _ ∧ _
  rw [z1]
  have en : IsEnum ((s.heap.push { cls := .type "tuple_iterator", data := .fields #[.ref t, .int 0 0] }).push
      { cls := .type "enumerate", data := .fields #[.none, .bool false, .ref s.heap.objs.size, rawInt 0, .none, .none] }) (s.heap.objs.size + 1) s.heap.objs.size 0 .none := by
    have z := Heap.get?_push_size (s.heap.push { cls := .type "tuple_iterator", data := .fields #[.ref t, .int 0 0] })
      (o := { cls := .type "enumerate", data := .fields #[.none, .bool false, .ref s.heap.objs.size, rawInt 0, .none, .none] }) rfl
    rw [z1] at z
    exact z
  exact ⟨⟨_, en, rfl⟩, h _ en ⟨_, Heap.get?_push_of_some _ (Heap.get?_push_size _ rfl), rfl, rfl⟩
    fun b o z => Heap.get?_push_of_some _ (Heap.get?_push_of_some _ z)⟩
def iEnT (K : PySem.W.Frag) (ta : TA) : TI := fun σ H R => ta σ H fun vs H1 => ∃ a ys, vs = [.ref a] ∧ SqT K H1 a ys ∧ R (ItE K a) H1
theorem pi_enT {X : Cx} {e : Expr} {ta : TA} {p pos tpos : Pos} {es : List Expr} {kk : Nat} (hg : Gl X "enumerate") (hm : X.mg "enumerate" = none) (ha : PA X [e] ta) (hs : starEach [e] X.env = [(false, eval e X.env)] := by rfl) :
    PI X (.Tuple es kk tpos) (.Call (.Name "enumerate" p) [e] [] pos) (iEnT X.K ta) := by
  refine ⟨fun pins s σ H R I h => ?_⟩
  refine Call_ (ld_blt I hg hm boot_enumerate (PyProof.Rows.callWith_type1
    (thn (ha.run pos pins s σ H _ I h) fun us s1 ⟨vs, H1, I1, r1, q1⟩ => ?_) hs rfl))
  obtain ⟨a, ys, ex, sq, q⟩ := q1
  subst ex
  cases r1 with
  | cons r rr =>
    cases rr
    cases r
    obtain ⟨us, rl, at_, _⟩ := I1.tuple sq
    have la : a < s1.heap.objs.size := by
      obtain ⟨_, z, _⟩ := at_
      exact Heap.lt_size z
    refine call_enumT (items := us.toArray) at_ fun h' he hit hk => wpAny_pyIter_enum he ?_
    have I2 : Inv X pins σ H1 { s1 with heap := h' } := I1.kept (t' := s1.toks) hk
    refine ⟨s1.heap.objs.size + 1, [s1.heap.objs.size + 1, s1.heap.objs.size], _, _, H1, rfl, I2,
      turnE a (s1.heap.objs.size + 1) s1.heap.objs.size, ⟨⟨.none, he⟩, hit, Nat.succ_ne_self _, Nat.ne_of_lt la, Nat.ne_of_gt (Nat.lt_succ_of_lt la)⟩, fun b hb => ?_, q⟩
    have lb : s1.heap.objs.size ≤ b := by
      rcases (show b = s1.heap.objs.size + 1 ∨ b = s1.heap.objs.size by simpa using hb) with z | z
      · rw [z]; exact Nat.le_add_right _ _
      · rw [z]; exact Nat.le_refl _
    exact I1.fpOk lb (I1.hok.fresh lb)
/-! ### // by a great divisor of either sign -/
def CDivG (_ j : Int) : Prop := j ≠ 0 ∧ j.natAbs.log2 < 9000
theorem op_fdivG {X : Cx} : OpR X (binaryOp .FloorDiv) (rI CDivG fun i j => .int (i.fdiv j)) :=
  opI fun i j _ _ _ _ _ hc q => floordiv_int hc.1 q (.inl (PyProof.noPylong_of_log2 hc.2))
end
end SS
namespace SS
def sgd (t b : Int) : Int := if b < 0 then -((Int.gcd t b : Nat) : Int) else ((Int.gcd t b : Nat) : Int)
def fr1 (t b : Int) : Int := t.fdiv (sgd t b)
def fr2 (t b : Int) : Int := b.fdiv (sgd t b)
theorem gcdP {t b : Int} (h : b ≠ 0) : 0 < Int.gcd t b := Nat.pos_of_ne_zero fun e => h (Int.gcd_eq_zero_iff.mp e).2
theorem sgd_abs (t b : Int) : (sgd t b).natAbs = Int.gcd t b := by
  unfold sgd
  split <;> omega
theorem sgd_ne {t b : Int} (h : b ≠ 0) : sgd t b ≠ 0 := fun e => by
  have := gcdP (t := t) h
  rw [← sgd_abs, e] at this
  exact absurd this (by decide)
theorem sgd_dvd1 (t b : Int) : sgd t b ∣ t := by
  rw [← Int.natAbs_dvd_natAbs, sgd_abs, ← Int.natCast_dvd_natCast, Int.dvd_natAbs]
  exact Int.gcd_dvd_left ..
theorem sgd_dvd2 (t b : Int) : sgd t b ∣ b := by
  rw [← Int.natAbs_dvd_natAbs, sgd_abs, ← Int.natCast_dvd_natCast, Int.dvd_natAbs]
  exact Int.gcd_dvd_right ..
theorem fr1_eq {t b : Int} (h : b ≠ 0) : fr1 t b * sgd t b = t := by
  obtain ⟨k, e⟩ := sgd_dvd1 t b
  have z : fr1 t b = k := by
    unfold fr1
    have q : t.fdiv (sgd t b) = (sgd t b * k).fdiv (sgd t b) := congrArg (·.fdiv (sgd t b)) e
    rw [q]
    exact Int.mul_fdiv_cancel_left _ (sgd_ne h)
  rw [z, Int.mul_comm]
  exact e.symm
theorem fr2_eq {t b : Int} (h : b ≠ 0) : fr2 t b * sgd t b = b := by
  obtain ⟨k, e⟩ := sgd_dvd2 t b
  have z : fr2 t b = k := by
    unfold fr2
    have q : b.fdiv (sgd t b) = (sgd t b * k).fdiv (sgd t b) := congrArg (·.fdiv (sgd t b)) e
    rw [q]
    exact Int.mul_fdiv_cancel_left _ (sgd_ne h)
  rw [z, Int.mul_comm]
  exact e.symm
theorem fr2_pos {t b : Int} (h : b ≠ 0) : 0 < fr2 t b := by
  have e := fr2_eq (t := t) h
  have g := gcdP (t := t) h
  unfold sgd at e
  by_cases c : b < 0
  · rw [if_pos c] at e
    refine Int.lt_of_not_ge fun z => ?_
    have : 0 ≤ fr2 t b * -((Int.gcd t b : Nat) : Int) := Int.mul_nonneg_of_nonpos_of_nonpos z (by omega)
    omega
  · rw [if_neg c] at e
    refine Int.lt_of_not_ge fun z => ?_
    have : fr2 t b * ((Int.gcd t b : Nat) : Int) ≤ 0 := Int.mul_nonpos_of_nonpos_of_nonneg z (by omega)
    omega
theorem fr_gcd {t b : Int} (h : b ≠ 0) : Int.gcd (fr1 t b) (fr2 t b) = 1 := by
  have g := gcdP (t := t) h
  have e : Int.gcd (fr1 t b * sgd t b) (fr2 t b * sgd t b) = Int.gcd t b := by rw [fr1_eq h, fr2_eq h]
  rw [Int.gcd_mul_right, sgd_abs] at e
  exact Nat.eq_of_mul_eq_mul_right g (by rw [e, Nat.one_mul])
theorem fr_cross {t b : Int} (h : b ≠ 0) : fr1 t b * b = t * fr2 t b := by
  have e1 := fr1_eq (t := t) h
  have e2 := fr2_eq (t := t) h
  calc fr1 t b * b = fr1 t b * (fr2 t b * sgd t b) := by rw [e2]
    _ = (fr1 t b * sgd t b) * fr2 t b := by rw [Int.mul_comm (fr2 t b), Int.mul_assoc]
    _ = t * fr2 t b := by rw [e1]
theorem fr1_le {t b : Int} (h : b ≠ 0) : (fr1 t b).natAbs ≤ t.natAbs := by
  have e := congrArg Int.natAbs (fr1_eq (t := t) h)
  rw [Int.natAbs_mul, sgd_abs] at e
  rw [← e]
  exact Nat.le_mul_of_pos_right _ (gcdP h)
theorem fr2_le {t b : Int} (h : b ≠ 0) : (fr2 t b).natAbs ≤ b.natAbs := by
  have e := congrArg Int.natAbs (fr2_eq (t := t) h)
  rw [Int.natAbs_mul, sgd_abs] at e
  rw [← e]
  exact Nat.le_mul_of_pos_right _ (gcdP h)
/-- one turn of the walk down -/
theorem gcd_turn {a b : Int} (ha : 0 ≤ a) (hb : 0 < b) : Int.gcd b (a % b) = Int.gcd a b := by
  obtain ⟨m, rfl⟩ := Int.eq_ofNat_of_zero_le ha
  obtain ⟨n, rfl⟩ := Int.eq_ofNat_of_zero_le (Int.le_of_lt hb)
  rw [← Int.natCast_emod]
  show Nat.gcd n (m % n) = Nat.gcd m n
  rw [Nat.gcd_comm n, ← Nat.gcd_rec, Nat.gcd_comm]
theorem gcd_end (a : Int) (h : 0 ≤ a) : ((Int.gcd a 0 : Nat) : Int) = a := by
  rw [Int.gcd_zero_right]
  omega
theorem gcd_abs (a b : Int) : Int.gcd (if a < 0 then -a else a) (if b < 0 then -b else b) = Int.gcd a b := by
  have n : ∀ x : Int, (if x < 0 then -x else x).natAbs = x.natAbs := fun x => by split <;> omega
  unfold Int.gcd
  rw [n, n]
end SS
namespace SS
open PySem PySem.Spec PyProof.Rows L2
/-! ### heaps -/
/-- all but st is as it was -/
def But (st : Addr) (H H' : Hp) : Prop := ∀ b o, b ≠ st → H b = some o → H' b = some o
theorem But.refl (st : Addr) (H : Hp) : But st H H := fun _ _ _ h => h
theorem But.trans {st : Addr} {H H1 H2 : Hp} (x : But st H H1) (y : But st H1 H2) : But st H H2 := fun b o n h => y b o n (x b o n h)
theorem Same.but {st : Addr} {H H' : Hp} (x : Same H H') : But st H H' := fun b o _ h => x b o h
theorem same_new {H : Hp} {p : Addr} {o : HO} (h : H p = none) : Same H (upd H p o) := fun b x e => by
  rw [upd_ne (ne_of_none e h)]
  exact e
theorem But.upd {st : Addr} {H : Hp} {o : HO} : But st H (upd H st o) := fun b x n e => by
  rw [upd_ne n]
  exact e
/-- the law's own state: its cells, where it stands, what is left, whether that is mixed -/
def StA (st c : Addr) (H : Hp) : Prop := ∃ (i n : Int) (f : Bool) (xs : List Int),
  H st = some (.lst [.ref c, .int i, .int n, .bl f]) ∧ H c = some (.lst (xs.map V.int)) ∧ xs.length ≤ 63 ∧ c ≠ st
theorem StA.same {st c : Addr} {H H' : Hp} (s : StA st c H) (x : Same H H') : StA st c H' := by
  obtain ⟨i, n, f, xs, h1, h2, h3, h4⟩ := s
  exact ⟨i, n, f, xs, x _ _ h1, x _ _ h2, h3, h4⟩
theorem StA.tup {st c p : Addr} {H : Hp} {xs : List V} (s : StA st c H) (h : H p = some (.tup xs)) : p ≠ st := fun e => by
  obtain ⟨i, n, f, ys, h1, _⟩ := s
  rw [e, h1] at h
  cases h
theorem StA.fresh {st c p : Addr} {H : Hp} (s : StA st c H) (h : H p = none) : p ≠ st := fun e => by
  obtain ⟨i, n, f, ys, h1, _⟩ := s
  rw [e, h1] at h
  cases h
theorem But.tup {st c p : Addr} {H H' : Hp} {xs : List V} (b : But st H H') (s : StA st c H) (h : H p = some (.tup xs)) : H' p = some (.tup xs) := b _ _ (s.tup h) h
/-- another object, made since, changes: the state stands -/
theorem StA.other {st c l : Addr} {H : Hp} {o : HO} (s : StA st c H) (h1 : l ≠ st) (h2 : l ≠ c) : StA st c (upd H l o) := by
  obtain ⟨i, n, f, xs, a1, a2, a3, a4⟩ := s
  exact ⟨i, n, f, xs, by rw [upd_ne h1.symm]; exact a1, by rw [upd_ne h2.symm]; exact a2, a3, a4⟩
theorem StA.fresh2 {st c p : Addr} {H : Hp} (s : StA st c H) (h : H p = none) : p ≠ c := fun e => by
  obtain ⟨i, n, f, ys, _, h1, _⟩ := s
  rw [e, h1] at h
  cases h
/-- a tuple (n, d) with d above 0 and few bits -/
def Fra (k : Nat) (H : Hp) (p : Addr) : Prop := ∃ n d : Int, H p = some (.tup [.int n, .int d]) ∧ 0 < d ∧ n.natAbs < 2 ^ k ∧ d.natAbs < 2 ^ k
theorem Fra.same {k : Nat} {p : Addr} {H H' : Hp} (s : Fra k H p) (x : Same H H') : Fra k H' p := by
  obtain ⟨n, d, h1, h2⟩ := s
  exact ⟨n, d, x _ _ h1, h2⟩
theorem Fra.but {k : Nat} {st c p : Addr} {H H' : Hp} (s : Fra k H p) (x : But st H H') (y : StA st c H) : Fra k H' p := by
  obtain ⟨n, d, h1, h2⟩ := s
  exact ⟨n, d, x.tup y h1, h2⟩
theorem Fra.mono {k j : Nat} {p : Addr} {H : Hp} (s : Fra k H p) (h : k ≤ j) : Fra j H p := by
  obtain ⟨n, d, h1, h2, h3, h4⟩ := s
  have z : 2 ^ k ≤ 2 ^ j := Nat.pow_le_pow_right (by decide) h
  exact ⟨n, d, h1, h2, Nat.lt_of_lt_of_le h3 z, Nat.lt_of_lt_of_le h4 z⟩
/-! ### a def of the module, as its callers know it -/
structure Cl (P : Program) (w : World) (K : PySem.W.Frag) (mg : Str → Option Value) (base : Heap) (CX : CXT) (k : Nat) (x : Str) (sp : Sp) (dvs : List V) : Prop where
  ex : ∃ (f : Addr) (fd : FuncData) (ps : List Str) (ds : List Value), FnOk P w K mg base CX k f fd ps sp ∧ mg x = some (.ref f) ∧ PySem.W.keepIn K (.ref f) = true ∧ Binds K fd ps ds ∧ Vals dvs ds
section
variable {X : Cx} {k j : Nat} {x : Str} {sp : Sp} {dvs : List V} {e : Expr} {es : List Expr} {t : TA} {p pos : Pos}
theorem pc0 (c : Cl X.prog X.w X.K X.mg X.base CX0 k x sp dvs) (hr : Room j X.A) (hk : k ≤ j) (ha : PA X (e :: es) t) (hg : Gl X x := by rfl)
    (hdb : (x == ("__debug__" : Str)) = false := by decide) (he : starEach (e :: es) X.env = (false, eval e X.env) :: starEach es X.env := by rfl) (hpl : (backTo pos (starEach es X.env)).any (·.1) = false := by rfl) :
    PE X (.Call (.Name x p) (e :: es) [] pos) (tCall sp dvs E0 t) := by
  obtain ⟨f, fd, ps, ds, F, gm, kp, b, d⟩ := c.ex
  exact pe_call F (hr.mono hk) hg gm kp b d pass0 ha hdb he hpl
theorem pcX (c : Cl X.prog X.w X.K X.mg X.base (L2.CX X.prog X.w) k x sp dvs) (hr : Room j X.A) (hk : k ≤ j) (ha : PA X (e :: es) t) (hg : Gl X x := by rfl)
    (hdb : (x == ("__debug__" : Str)) = false := by decide) (he : starEach (e :: es) X.env = (false, eval e X.env) :: starEach es X.env := by rfl) (hpl : (backTo pos (starEach es X.env)).any (·.1) = false := by rfl) :
    PE X (.Call (.Name x p) (e :: es) [] pos) (tCall sp dvs E0 t) := by
  obtain ⟨f, fd, ps, ds, F, gm, kp, b, d⟩ := c.ex
  exact pe_call F (hr.mono hk) hg gm kp b d passL ha hdb he hpl
/-- where what it raises is wished for: in a try, or let out of the def -/
theorem pcS {E : L2.St → XK} (c : Cl X.prog X.w X.K X.mg X.base (L2.CX X.prog X.w) k x sp []) (hr : Room j X.A) (hk : k ≤ j) (hx : ∀ σ, PassesAt (L2.CX X.prog X.w) X σ (E σ)) (ha : PA X (e :: es) t) (hg : Gl X x := by rfl)
    (hdb : (x == ("__debug__" : Str)) = false := by decide) (he : starEach (e :: es) X.env = (false, eval e X.env) :: starEach es X.env := by rfl) (hpl : (backTo pos (starEach es X.env)).any (·.1) = false := by rfl) :
    PE X (.Call (.Name x p) (e :: es) [] pos) (tCallS sp E t) := by
  obtain ⟨f, fd, ps, ds, F, gm, kp, b, d⟩ := c.ex
  cases d
  exact pe_callS F (hr.mono hk) hg gm kp b hx ha hdb he hpl
end
section
variable {P : Program} {w : World} {K : PySem.W.Frag} {mg : Str → Option Value} {base : Heap}
theorem Cl.mk0 {CX : CXT} {k : Nat} {x : Str} {sp : Sp} {f : Addr} {fd : FuncData} {ps : List Str} (F : FnOk P w K mg base CX k f fd ps sp) (g : mg x = some (.ref f)) (kp : PySem.W.keepIn K (.ref f) = true) (b : Binds K fd ps []) : Cl P w K mg base CX k x sp [] :=
  ⟨⟨f, fd, ps, [], F, g, kp, b, .nil⟩⟩
end
theorem small2 : 2 ≤ sizeLine := by decide
end SS
namespace SS
open PySem PySem.Spec PyProof.Rows L2
def topS (i : Nat) : Stmt := PySem.Challenge.pw_scopestore_k01_fractions_made.main.body.getD i (.Pass ⟨0, 0, 0, 0⟩)
abbrev sCd : Stmt := topS 18
abbrev sFo : Stmt := topS 19
abbrev sFresh : Stmt := topS 21
abbrev sMixed : Stmt := topS 22
abbrev sFill : Stmt := topS 23
abbrev sTake : Stmt := topS 24
abbrev sWhole : Stmt := topS 25
abbrev sSh : Stmt := topS 26
abbrev sIsf : Stmt := topS 27
abbrev sWn : Stmt := topS 28
abbrev sRef : Stmt := topS 29
abbrev sRai : Stmt := topS 30
abbrev sMet : Stmt := topS 31
abbrev sLaw : Stmt := topS 32
end SS
namespace SS
open PySem PySem.Spec PyProof.Rows L2
section
variable {P : Program} {w : World} {K : PySem.W.Frag} {mg : Str → Option Value} {base : Heap}
/-! ### the greatest common divisor -/
def spGcd : Sp := fun vs H Q _ => ∃ a b : Int, vs = [.int a, .int b] ∧ Q (.int ((Int.gcd a b : Nat) : Int)) H
theorem scCd : FnScope ["a", "b"] ["a", "b"] (defScope sCd) := ⟨rfl, rfl, rfl, by decide +kernel, rfl, by decide +kernel, by decide +kernel⟩
theorem ok_cd {f : Addr} {fd : FuncData} {k : Nat} (F : Fun K "common_divisor" "common_divisor" sCd f fd) (ma : mg "abs" = none) : FnOk P w K mg base CX0 (k + 1) f fd ["a", "b"] spGcd := by
  refine F.ok scCd (fun vs H Q E h => ?_) (fun cdv A outer s H vs Q E hr h => ?_)
  · obtain ⟨a, b, rfl, _⟩ := h
    rfl
  · obtain ⟨a, b, rfl, q⟩ := h
    refine ⟨_, pss_cons (ps_par (i := 0) (j := 1) rfl scCd.nd rfl rfl (by decide) rfl rfl
        (pa_cons (pe_callB call_abs (by rfl) ma boot_abs (pa_cons (pv 0) pa_nil)) (pa_cons (pe_callB call_abs (by rfl) ma boot_abs (pa_cons (pv 1) pa_nil)) pa_nil)) rfl)
      (pss_cons (ps_while PassesOwn.never (pt_cmpR op_gt (pv 1) pe_int (nomark _))
        (pss_one (ps_par (i := 0) (j := 1) rfl scCd.nd rfl rfl (by decide) rfl rfl (pa_cons (pv 1) (pa_cons (pe_op op_mod (pv 0) (pv 1)) pa_nil)) rfl)))
      (pss_one (ps_ret (pv 0)))), ?_⟩
    refine ⟨_, rfl, a, rfl, _, rfl, b, rfl, _, _, rfl, ?_⟩
    refine ⟨fun m σ H' => ∃ x y : Int, σ = [some (.int x), some (.int y)] ∧ H' = H ∧ 0 ≤ x ∧ 0 ≤ y ∧ Int.gcd x y = Int.gcd a b ∧ m = y.toNat,
      ⟨_, _, _, rfl, rfl, by split <;> omega, by split <;> omega, gcd_abs a b, rfl⟩, fun m σ H' hW => ?_⟩
    obtain ⟨x, y, rfl, rfl, hx, hy, hg, rfl⟩ := hW
    refine ⟨_, rfl, _, _, rfl, rfl, _, rfl, ite2 (fun e => ?_) (fun e => ?_)⟩
    · have e' : 0 < y := of_decide_eq_true e
      refine ⟨fun σ' H1 => ∃ x' y' : Int, σ' = [some (.int x'), some (.int y')] ∧ H1 = H' ∧ 0 ≤ x' ∧ 0 ≤ y' ∧ Int.gcd x' y' = Int.gcd a b ∧ y' < y, fun σ' H1 hN => ?_, ?_⟩
      · obtain ⟨x', y', r1, r2, r3, r4, r5, r6⟩ := hN
        exact ⟨y'.toNat, by omega, x', y', r1, r2, r3, r4, r5, rfl⟩
      · refine ⟨_, rfl, _, rfl, _, rfl, x, y, rfl, rfl, e', _, _, rfl, y, x % y, rfl, rfl, hy, Int.emod_nonneg _ (by omega), ?_, Int.emod_lt_of_pos _ e'⟩
        rw [gcd_turn hx e', hg]
    · have e' : ¬ 0 < y := fun z => e (decide_eq_true z)
      have y0 : y = 0 := by omega
      subst y0
      refine ⟨_, rfl, ?_⟩
      rw [← hg, gcd_end x hx] at q
      exact q
theorem scSh : FnScope ["_law_one", "_law_other"] ["_law_one", "_law_other"] (defScope sSh) := ⟨rfl, rfl, rfl, by decide +kernel, rfl, by decide +kernel, by decide +kernel⟩
theorem ok_sh {f : Addr} {fd : FuncData} {k : Nat} (F : Fun K "_law_shared" "_law_shared" sSh f fd) (ma : mg "abs" = none) : FnOk P w K mg base CX0 (k + 1) f fd ["_law_one", "_law_other"] spGcd := by
  refine F.ok scSh (fun vs H Q E h => ?_) (fun cdv A outer s H vs Q E hr h => ?_)
  · obtain ⟨a, b, rfl, _⟩ := h
    rfl
  · obtain ⟨a, b, rfl, q⟩ := h
    refine ⟨_, pss_cons (ps_par (i := 0) (j := 1) rfl scSh.nd rfl rfl (by decide) rfl rfl
        (pa_cons (pe_callB call_abs (by rfl) ma boot_abs (pa_cons (pv 0) pa_nil)) (pa_cons (pe_callB call_abs (by rfl) ma boot_abs (pa_cons (pv 1) pa_nil)) pa_nil)) rfl)
      (pss_cons (ps_while PassesOwn.never (pt_cmpR op_gt (pv 1) pe_int (nomark _))
        (pss_one (ps_par (i := 0) (j := 1) rfl scSh.nd rfl rfl (by decide) rfl rfl (pa_cons (pv 1) (pa_cons (pe_op op_mod (pv 0) (pv 1)) pa_nil)) rfl)))
      (pss_one (ps_ret (pv 0)))), ?_⟩
    refine ⟨_, rfl, a, rfl, _, rfl, b, rfl, _, _, rfl, ?_⟩
    refine ⟨fun m σ H' => ∃ x y : Int, σ = [some (.int x), some (.int y)] ∧ H' = H ∧ 0 ≤ x ∧ 0 ≤ y ∧ Int.gcd x y = Int.gcd a b ∧ m = y.toNat,
      ⟨_, _, _, rfl, rfl, by split <;> omega, by split <;> omega, gcd_abs a b, rfl⟩, fun m σ H' hW => ?_⟩
    obtain ⟨x, y, rfl, rfl, hx, hy, hg, rfl⟩ := hW
    refine ⟨_, rfl, _, _, rfl, rfl, _, rfl, ite2 (fun e => ?_) (fun e => ?_)⟩
    · have e' : 0 < y := of_decide_eq_true e
      refine ⟨fun σ' H1 => ∃ x' y' : Int, σ' = [some (.int x'), some (.int y')] ∧ H1 = H' ∧ 0 ≤ x' ∧ 0 ≤ y' ∧ Int.gcd x' y' = Int.gcd a b ∧ y' < y, fun σ' H1 hN => ?_, ?_⟩
      · obtain ⟨x', y', r1, r2, r3, r4, r5, r6⟩ := hN
        exact ⟨y'.toNat, by omega, x', y', r1, r2, r3, r4, r5, rfl⟩
      · refine ⟨_, rfl, _, rfl, _, rfl, x, y, rfl, rfl, e', _, _, rfl, y, x % y, rfl, rfl, hy, Int.emod_nonneg _ (by omega), ?_, Int.emod_lt_of_pos _ e'⟩
        rw [gcd_turn hx e', hg]
    · have e' : ¬ 0 < y := fun z => e (decide_eq_true z)
      have y0 : y = 0 := by omega
      subst y0
      refine ⟨_, rfl, ?_⟩
      rw [← hg, gcd_end x hx] at q
      exact q
end
end SS
namespace SS
open PySem PySem.Spec PyProof.Rows L2
/-- what the top says of an own class of errors, straight or not under ValueError, at C -/
structure ExT (K : PySem.W.Frag) (mg : Str → Option Value) (x : Str) (C : Addr) : Prop where
  gC : mg x = some (.ref C)
  xC : PySem.W.excIn K C [.type "ValueError", .type "Exception", .type "BaseException", .type "object"] "ValueError.__new__" = true
  kC : PySem.W.keepIn K (.ref C) = true
  bC : PySem.W.subIn K (.ref C) (.type "BaseException") = some true
  tC : PySem.W.typeIn K (.ref C) = some (.type "type")
theorem logOf {b : Int} {n : Nat} (h0 : 0 < n) (h : b.natAbs < 2 ^ n) (hn : n ≤ 9000) : b.natAbs.log2 < 9000 := Nat.lt_of_lt_of_le (PySem.Flt.log2_lt_of h0 h) hn
theorem sgd_ok {t b : Int} (h : b ≠ 0) (hb : b.natAbs < 2 ^ 8000) (i : Int) : CDivG i (sgd t b) := by
  refine ⟨sgd_ne h, logOf (n := 8000) (by decide) ?_ (by decide)⟩
  rw [sgd_abs]
  refine Nat.lt_of_le_of_lt (Nat.le_of_dvd (Int.natAbs_pos.mpr h) ?_) hb
  exact Nat.gcd_dvd_right ..
section
variable {P : Program} {w : World} {K : PySem.W.Frag} {mg : Str → Option Value} {base : Heap}
/-! ### fraction_of; the law's own _law_frac -/
def spFo (C : Addr) : Sp := fun vs H Q E => ∃ t b : Int, vs = [.int t, .int b] ∧ (b = 0 → E (.ref C) none H) ∧
  (b ≠ 0 → b.natAbs < 2 ^ 8000 ∧ ∀ p, H p = none → Q (.ref p) (upd H p (.tup [.int (fr1 t b), .int (fr2 t b)])))
theorem scFo : FnScope ["top", "bottom", "divisor"] ["top", "bottom"] (defScope sFo) := ⟨rfl, rfl, rfl, by decide +kernel, rfl, by decide +kernel, by decide +kernel⟩
theorem ok_fo {f C : Addr} {fd : FuncData} (F : FunD K "fraction_of" "fraction_of" (defArgs sFo) (defBody sFo) (defScope sFo) [.int 1] [] f fd) (T : ExT K mg "NoFraction" C)
    (cd : Cl P w K mg base CX0 1 "common_divisor" spGcd []) : FnOk P w K mg base (L2.CX P w) 2 f fd ["top", "bottom"] (spFo C) := by
  refine F.ok scFo (fun vs H Q E h => ?_) (fun cdv A outer s H vs Q E hr h => ?_)
  · obtain ⟨a, b, rfl, _⟩ := h
    rfl
  · obtain ⟨t, b, rfl, q0, q1⟩ := h
    refine ⟨_, pss_cons (ps_if (pt_cmpR op_eq (pv 1) pe_int (nomark _))
        (pss_one (ps_raise rfl (takes_of rfl rfl rfl rfl) (pmk_own PySem.F.excBase_ValueError T.xC T.gC T.kC (raises_own T.bC T.tC) (by exact rfl)))) pss_nil)
      (pss_cons (ps_set (i := 2) scFo.nd rfl (.inl rfl) (pc0 cd hr (by decide) (pa_cons (pv 0) (pa_cons (pv 1) pa_nil))))
      (pss_cons (ps_if (pt_cmpR op_lt (pv 1) pe_int (nomark _)) (pss_one (ps_set (i := 2) scFo.nd rfl (.inl rfl) (pe_un un_neg (pv 2)))) pss_nil)
      (pss_one (ps_ret (pe_tup (pa_cons (pe_op op_fdivG (pv 0) (pv 2)) (pa_cons (pe_op op_fdivG (pv 1) (pv 2)) pa_nil))))))), ?_⟩
    refine ⟨_, rfl, rfl, _, rfl, ite2 (fun e => ?_) (fun e => ?_)⟩
    · exact q0 (V.int.inj (of_decide_eq_true e))
    · have h0 : b ≠ 0 := fun z => e (by rw [z]; exact decide_eq_true rfl)
      obtain ⟨hb, q⟩ := q1 h0
      refine ⟨_, rfl, _, rfl, t, b, rfl, ?_⟩
      refine ⟨_, rfl, _, _, rfl, rfl, _, rfl, ite2 (fun e2 => ?_) (fun e2 => ?_)⟩
      · have e3 : sgd t b = -((Int.gcd t b : Nat) : Int) := if_pos (of_decide_eq_true e2)
        refine ⟨_, rfl, _, rfl, ?_⟩
        refine ⟨_, rfl, _, rfl, t, sgd t b, rfl, by rw [e3], sgd_ok h0 hb t, _, rfl, _, rfl, b, sgd t b, rfl, by rw [e3], sgd_ok h0 hb b, small2, q⟩
      · have e3 : sgd t b = ((Int.gcd t b : Nat) : Int) := if_neg fun z => e2 (decide_eq_true z)
        refine ⟨_, rfl, _, rfl, t, sgd t b, rfl, by rw [e3], sgd_ok h0 hb t, _, rfl, _, rfl, b, sgd t b, rfl, by rw [e3], sgd_ok h0 hb b, small2, q⟩
end
end SS
namespace SS
open PySem PySem.Spec PyProof.Rows L2
section
variable {P : Program} {w : World} {K : PySem.W.Frag} {mg : Str → Option Value} {base : Heap}
/-! ### the law's draws: fresh, mixed, fill, take -/
def spFresh (K : PySem.W.Frag) : Sp := fun vs H Q _ => ∃ (a : Addr) (ns : List Int), vs = [.ref a] ∧ SqL K H a (ns.map V.int) ∧
  ∀ H' st c, Same H H' → H st = none → H c = none → StA st c H' → Q (.ref st) H'
theorem scFresh : FnScope ["_law_script"] ["_law_script"] (defScope sFresh) := ⟨rfl, rfl, rfl, by decide +kernel, rfl, by decide +kernel, by decide +kernel⟩
theorem cut63 (xs : List V) : (cutV xs none (some 63)) = xs.take 63 := by
  unfold cutV
  rw [HT.sIx_none, show HT.sIx xs.length xs.length (some 63) = min 63 xs.length from HT.sIx_nat xs.length xs.length 63]
  show List.take (min 63 xs.length - 0) (xs.drop 0) = xs.take 63
  rw [List.drop_zero, Nat.sub_zero]
  by_cases h : xs.length ≤ 63
  · rw [Nat.min_eq_right h, List.take_length, List.take_of_length_le h]
  · rw [Nat.min_eq_left (by omega)]
theorem ok_fresh {f : Addr} {fd : FuncData} {k : Nat} (F : Fun K "_law_fresh" "_law_fresh" sFresh f fd) : FnOk P w K mg base CX0 (k + 1) f fd ["_law_script"] (spFresh K) := by
  refine F.ok scFresh (fun vs H Q E h => ?_) (fun cdv A outer s H vs Q E hr h => ?_)
  · obtain ⟨a, ns, rfl, _⟩ := h
    rfl
  · obtain ⟨a, ns, rfl, hS, q⟩ := h
    refine ⟨_, pss_one (ps_ret (pe_lst (pa_cons (pe_slice sl_list (pv 0) po_none (po_some pe_int)) (pa_cons pe_int (pa_cons pe_int (pa_cons pe_bl pa_nil)))))), ?_⟩
    refine ⟨_, rfl, 63, rfl, a, _, rfl, hS, fun c nc => ?_⟩
    refine ⟨by show 4 ≤ sizeLine; decide, fun st nst => ?_⟩
    have ncs : c ≠ st := fun e => by
      rw [e, upd_same] at nst
      cases nst
    have s1 := same_new (o := .lst (cutV (ns.map V.int) none (some 63))) nc
    refine q _ st c (s1.trans (same_new nst)) (s1.free nst) nc ⟨0, 0, false, ns.take 63, upd_same, ?_, ?_, ncs⟩
    · rw [upd_ne ncs, upd_same, cut63, List.map_take]
    · rw [List.length_take]
      exact Nat.min_le_left _ _
def spMixed : Sp := fun vs H Q _ => ∃ z : Int, vs = [.int z] ∧ ∀ H' (m : Int), Same H H' → Q (.int m) H'
theorem scMixed : FnScope ["_law_seed", "_law_primes", "_law_number", "_law_k", "_law_prime", "_law_far", "_law_square", "_law_power"] ["_law_seed"] (defScope sMixed) := ⟨rfl, rfl, rfl, by decide +kernel, rfl, by decide +kernel, by decide +kernel⟩
def primes : List Int := [2147483647, 2147483629, 2147483587, 2147483579, 2147483563]
def adds : List Int := [11, 101, 1009, 10007, 100003]
theorem at_some {xs : List Int} {i : Nat} (h : i < xs.length) : atI (xs.map V.int) (i : Int) = some (.int xs[i]) :=
  atI_nat (by rw [List.getElem?_map, List.getElem?_eq_getElem h]; rfl)
theorem primes_ok : ∀ x ∈ primes, 0 < x ∧ x < 2 ^ 31 := by decide
theorem ok_mixed {f : Addr} {fd : FuncData} {k : Nat} (F : Fun K "_law_mixed" "_law_mixed" sMixed f fd) (me : mg "enumerate" = none) : FnOk P w K mg base CX0 (k + 1) f fd ["_law_seed"] spMixed := by
  refine F.ok scMixed (fun vs H Q E h => ?_) (fun cdv A outer s H vs Q E hr h => ?_)
  · obtain ⟨a, rfl, _⟩ := h
    rfl
  · obtain ⟨z, rfl, q⟩ := h
    refine ⟨_, pss_cons (ps_set (i := 1) scMixed.nd rfl (.inl rfl) (pe_tup (pa_cons pe_int (pa_cons pe_int (pa_cons pe_int (pa_cons pe_int (pa_cons pe_int pa_nil)))))))
      (pss_cons (ps_set (i := 2) scMixed.nd rfl (.inl rfl) pe_int)
      (pss_cons (ps_for PassesOwn.never rfl (pi_enT (by rfl) me (pa_cons (pv 1) pa_nil)) (pg_tup rfl (pgs_cons (pg_name (i := 3) scMixed.nd rfl (.inl rfl)) (pgs_cons (pg_name (i := 4) scMixed.nd rfl (.inl rfl)) pgs_nil)))
        (pss_cons (ps_set (i := 5) scMixed.nd rfl (.inl rfl) (pe_op op_add (pv 0) (pe_ix ix_tup (pe_tup (pa_cons pe_int (pa_cons pe_int (pa_cons pe_int (pa_cons pe_int (pa_cons pe_int pa_nil)))))) (pv 3) (fun _ _ => rfl))))
        (pss_cons (ps_set (i := 5) scMixed.nd rfl (.inl rfl) (pe_op op_mod (pe_op op_mul (pv 5) (pe_op op_add pe_int (pe_op op_mul pe_int (pv 3)))) (pv 4)))
        (pss_cons (ps_set (i := 6) scMixed.nd rfl (.inl rfl) (pe_op op_mod (pe_op op_mul (pv 5) (pv 5)) (pv 4)))
        (pss_cons (ps_set (i := 7) scMixed.nd rfl (.inl rfl) (pe_op op_mod (pe_op op_mul (pe_op op_mod (pe_op op_mul (pv 6) (pv 6)) (pv 4)) (pv 5)) (pv 4)))
        (pss_one (ps_set (i := 2) scMixed.nd rfl (.inl rfl) (pe_op op_add (pe_op op_mul (pv 2) (pv 4)) (pv 7)))))))))
      (pss_one (ps_ret (pv 2))))), ?_⟩
    refine ⟨by show 5 ≤ sizeLine; decide, fun t nt => ?_⟩
    have s1 := same_new (o := .tup (primes.map V.int)) nt
    have e1 : (upd H t (.tup (primes.map V.int))) t = some (.tup (primes.map V.int)) := upd_same
    refine ⟨_, rfl, t, primes.map V.int, rfl, .inl (.inl e1), ?_⟩
    refine ⟨fun i m σ H3 => ∃ (nn : Int) (y3 y4 y5 y6 y7 : Option V), σ = [some (.int z), some (.ref t), some (.int nn), y3, y4, y5, y6, y7] ∧ i + m = 5 ∧ Same (upd H t (.tup (primes.map V.int))) H3,
      ⟨5, 0, none, none, none, none, none, rfl, rfl, Same.refl _⟩, fun i m σ H3 hW => ?_⟩
    obtain ⟨nn, y3, y4, y5, y6, y7, rfl, em, sm⟩ := hW
    have e3 : SqT K H3 t (primes.map V.int) := .inl (.inl (sm _ _ e1))
    by_cases hi : i < 5
    · have hp : i < primes.length := hi
      refine .inr ⟨⟨_, _, e3, by rw [List.getElem?_map, List.getElem?_eq_getElem hp]; rfl⟩,
        fun σ' H' => ∃ (nn : Int) (y3 y4 y5 y6 y7 : Option V), σ' = [some (.int z), some (.ref t), some (.int nn), y3, y4, y5, y6, y7] ∧ Same (upd H t (.tup (primes.map V.int))) H', fun σ' H' hN => ?_, fun x H' hy => ?_⟩
      · obtain ⟨a1, a2, a3, a4, a5, a6, r1, r2⟩ := hN
        exact ⟨m - 1, by omega, a1, a2, a3, a4, a5, a6, r1, by omega, r2⟩
      · obtain ⟨T, v, rfl, nT, rfl, fv⟩ := hy
        have ev : v = .int primes[i] := by
          have zz := fv _ e3
          rw [List.getElem?_map, List.getElem?_eq_getElem hp] at zz
          exact (Option.some.inj zz).symm
        subst ev
        have pr : 0 < primes[i] ∧ primes[i] < 2 ^ 31 := primes_ok _ (List.getElem_mem hp)
        generalize primes[i] = pp at pr
        have sT := same_new (o := .tup [.int (i : Nat), .int pp]) nT
        refine ⟨T, [.int (i : Nat), .int pp], rfl, .inl (.inl upd_same), rfl, _, _, rfl, _, _, rfl, rfl, ?_⟩
        -- far = seed + (..)[k]
        refine ⟨_, rfl, by show 5 ≤ sizeLine; decide, fun U nU => ?_⟩
        have sU := same_new (o := .tup (adds.map V.int)) nU
        have hA : i < adds.length := hi
        refine ⟨_, rfl, U, adds.map V.int, (i : Int), .int adds[i], rfl, rfl, .inl (.inl upd_same), at_some hA, z, adds[i], rfl, rfl, ?_⟩
        obtain ⟨far, hfar⟩ : ∃ far, z + adds[i] = far := ⟨_, rfl⟩
        -- far = far * (48271 + 2 * k) % prime
        refine ⟨_, rfl, _, rfl, 2, (i : Int), rfl, rfl, .inl ⟨by decide, by decide⟩, 48271, 2 * (i : Int), rfl, rfl, far, _, congrArg V.int hfar, rfl, .inr ⟨by omega, by omega⟩, _, rfl, _, pp, rfl, rfl, pr.1, ?_⟩
        obtain ⟨fa, hfa⟩ : ∃ fa, far * (48271 + 2 * (i : Int)) % pp = fa := ⟨_, rfl⟩
        have f1 := Int.emod_nonneg (far * (48271 + 2 * (i : Int))) (b := pp) (by omega)
        have f2 := Int.emod_lt_of_pos (far * (48271 + 2 * (i : Int))) pr.1
        rw [hfa] at f1 f2
        -- square
        refine ⟨_, rfl, _, rfl, fa, fa, congrArg V.int hfa, congrArg V.int hfa, .inl ⟨by omega, by omega⟩, _, rfl, _, pp, rfl, rfl, pr.1, ?_⟩
        obtain ⟨sq, hsq⟩ : ∃ sq, fa * fa % pp = sq := ⟨_, rfl⟩
        have g1 := Int.emod_nonneg (fa * fa) (b := pp) (by omega)
        have g2 := Int.emod_lt_of_pos (fa * fa) pr.1
        rw [hsq] at g1 g2
        -- power
        refine ⟨_, rfl, _, rfl, sq, sq, congrArg V.int hsq, congrArg V.int hsq, .inl ⟨by omega, by omega⟩, _, rfl, _, pp, rfl, rfl, pr.1, _, rfl, _, fa, rfl, congrArg V.int hfa, .inr ⟨by omega, by omega⟩, _, rfl, _, pp, rfl, rfl, pr.1, ?_⟩
        -- number
        refine ⟨_, rfl, _, rfl, nn, pp, rfl, rfl, .inr ⟨by omega, by omega⟩, _, rfl, _, _, rfl, rfl, ?_⟩
        exact ⟨_, _, _, _, _, _, rfl, sm.trans (sT.trans sU)⟩
    · refine .inl ⟨⟨_, e3, by show 5 = i; omega⟩, _, rfl, q _ nn (s1.trans sm)⟩
end
end SS
namespace SS
open PySem PySem.Spec PyProof.Rows L2
section
variable {P : Program} {w : World} {K : PySem.W.Frag} {mg : Str → Option Value} {base : Heap}
def spFill : Sp := fun vs H Q _ => ∃ st c : Addr, vs = [.ref st] ∧ StA st c H ∧ ∀ H', But st H H' → StA st c H' → Q .non H'
theorem scFill : FnScope ["_law_state", "_law_cells", "_law_at", "_law_seed"] ["_law_state"] (defScope sFill) := ⟨rfl, rfl, rfl, by decide +kernel, rfl, by decide +kernel, by decide +kernel⟩
theorem ok_fill {f : Addr} {fd : FuncData} (F : Fun K "_law_fill" "_law_fill" sFill f fd) (ml : mg "len" = none) (mx : Cl P w K mg base CX0 1 "_law_mixed" spMixed []) : FnOk P w K mg base CX0 2 f fd ["_law_state"] spFill := by
  refine F.ok scFill (fun vs H Q E h => ?_) (fun cdv A outer s H vs Q E hr h => ?_)
  · obtain ⟨a, _, rfl, _⟩ := h
    rfl
  · obtain ⟨st, c, rfl, hst, q⟩ := h
    refine ⟨_, pss_cons (ps_par (i := 1) (j := 2) rfl scFill.nd rfl rfl (by decide) rfl rfl (pa_cons (pe_ix ix_list (pv 0) pe_int (fun _ _ => rfl)) (pa_cons (pe_ix ix_list (pv 0) pe_int (fun _ _ => rfl)) pa_nil)) rfl)
      (pss_cons (ps_set (i := 3) scFill.nd rfl (.inl rfl) (pe_op op_add (pe_op op_mul pe_int (pv 2)) pe_int))
      (pss_cons (ps_if (pt_cmpR op_gt (pe_callB call_len_seq (by rfl) ml PySem.boot_len (pa_cons (pv 1) pa_nil)) pe_int (nomark _))
        (pss_cons (ps_set (i := 3) scFill.nd rfl (.inl rfl) (pe_op op_mul pe_int (pe_op op_fdiv (pv 2) (pe_callB call_len_seq (by rfl) ml PySem.boot_len (pa_cons (pv 1) pa_nil)))))
        (pss_one (ps_set (i := 3) scFill.nd rfl (.inl rfl) (pe_op op_add (pv 3) (pe_ix ix_list (pv 1) (pe_op op_mod (pv 2) (pe_callB call_len_seq (by rfl) ml PySem.boot_len (pa_cons (pv 1) pa_nil))) (fun _ _ => rfl))))))
        pss_nil)
      (pss_cons (ps_asg (pe_op op_add (pv 2) pe_int) (pg_sub (pv 0) pe_int set_list))
      (pss_cons (ps_asg (pe_or (pe_cmpR op_ge (pv 2) (pe_callB call_len_seq (by rfl) ml PySem.boot_len (pa_cons (pv 1) pa_nil)) (nomark _)) (pe_one (pe_cmpR op_lt (pv 3) (pe_op op_pow pe_int pe_int) (nomark _)))) (pg_sub (pv 0) pe_int set_list))
      (pss_one (ps_if (pt_val (pe_ix ix_list (pv 0) pe_int (fun _ _ => rfl)))
        (pss_one (ps_asg (pc0 mx hr (by decide) (pa_cons (pv 3) pa_nil)) (pg_sub (pv 0) pe_int set_list)))
        (pss_one (ps_asg (pe_op op_sub (pv 3) (pe_op op_pow pe_int pe_int)) (pg_sub (pv 0) pe_int set_list))))))))), ?_⟩
    obtain ⟨i, n, b, xs, h1, h2, h3, h4⟩ := hst
    refine ⟨_, rfl, st, _, 0, _, rfl, rfl, SqL.of h1, atI_nat (j := 0) rfl, _, rfl, st, _, 1, _, rfl, rfl, SqL.of h1, atI_nat (j := 1) rfl, _, _, rfl, ?_⟩
    refine ⟨_, rfl, 31, i, rfl, rfl, .inl ⟨by decide, by decide⟩, _, 7, rfl, rfl, ?_⟩
    refine ⟨_, rfl, c, _, rfl, .inl (SqL.of h2), _, _, rfl, rfl, _, rfl, ite2 (fun e => ?_) (fun e => ?_)⟩
    have e0 : (0 : Int) < ((xs.map V.int).length : Int) := of_decide_eq_true e
    have e1 : 0 < xs.length := by
      rw [List.length_map] at e0
      omega
    have el : ((xs.map V.int).length : Int) = (xs.length : Int) := by rw [List.length_map]
    refine ⟨_, rfl, _, rfl, c, _, rfl, .inl (SqL.of h2), i, (xs.length : Int), rfl, congrArg V.int el, ⟨by omega, by omega⟩, 104729, _, rfl, rfl, .inl ⟨by decide, by decide⟩, ?_⟩
    have m1 := Int.emod_nonneg i (b := (xs.length : Int)) (by omega)
    have m2 := Int.emod_lt_of_pos i (b := (xs.length : Int)) (by omega)
    have m3 : (i % (xs.length : Int)).toNat < xs.length := by omega
    have m4 : atI (xs.map V.int) (i % (xs.length : Int)) = some (.int xs[(i % (xs.length : Int)).toNat]) := by
      have e5 : i % (xs.length : Int) = (((i % (xs.length : Int)).toNat : Nat) : Int) := by omega
      exact at_of e5 (by rw [List.getElem?_map, List.getElem?_eq_getElem m3]; rfl)
    refine ⟨_, rfl, _, rfl, _, rfl, _, rfl, c, _, rfl, .inl (SqL.of h2), i, (xs.length : Int), rfl, congrArg V.int el, by omega, c, _, _, _, rfl, rfl, SqL.of h2, m4, _, _, rfl, rfl, ?_⟩
    all_goals
      refine ⟨_, rfl, i, 1, rfl, rfl, _, rfl, st, _, 1, 1, rfl, rfl, h1, rfl, ?_⟩
      have k2 : ∀ o : HO, (upd H st o) c = some (.lst (xs.map V.int)) := fun o => by
        rw [upd_ne h4]
        exact h2
      refine ⟨_, rfl, _, rfl, c, _, rfl, .inl (SqL.of (k2 _)), _, _, rfl, rfl, _, rfl, ite2 (fun e2 => ?_) (fun e2 => ?_)⟩
      rotate_left
      refine ⟨_, rfl, 10, 18, rfl, rfl, ⟨by decide, by decide, by decide⟩, _, _, rfl, rfl, ?_⟩
      all_goals
        refine ⟨_, rfl, st, _, 3, 3, rfl, rfl, upd_same, rfl, ?_⟩
        refine ⟨_, rfl, st, _, 3, _, rfl, rfl, SqL.of upd_same, atI_nat (j := 3) rfl, _, rfl, ite2 (fun e3 => ?_) (fun e3 => ?_)⟩
        · refine ⟨_, rfl, _, rfl, fun H3 m sm => ?_⟩
          refine ⟨_, rfl, st, _, 2, 2, rfl, rfl, sm _ _ upd_same, rfl, ?_⟩
          refine q _ (((But.upd.trans But.upd).trans (Same.but sm)).trans But.upd) ⟨_, _, _, xs, upd_same, ?_, h3, h4⟩
          rw [upd_ne h4]
          refine sm _ _ ?_
          rw [upd_ne h4]
          exact k2 _
        · refine ⟨_, rfl, 10, 18, rfl, rfl, ⟨by decide, by decide, by decide⟩, _, _, rfl, rfl, _, rfl, st, _, 2, 2, rfl, rfl, upd_same, rfl, ?_⟩
          refine q _ ((But.upd.trans But.upd).trans But.upd) ⟨_, _, _, xs, upd_same, ?_, h3, h4⟩
          rw [upd_ne h4, upd_ne h4]
          exact k2 _
end
end SS
namespace SS
open PySem PySem.Spec PyProof.Rows L2
section
variable {P : Program} {w : World} {K : PySem.W.Frag} {mg : Str → Option Value} {base : Heap}
def spTake : Sp := fun vs H Q _ => ∃ (st c : Addr) (many : Int), vs = [.ref st, .int many] ∧ 0 < many ∧ many.natAbs < 2 ^ 8000 ∧ StA st c H ∧
  ∀ H' (d : Int), But st H H' → StA st c H' → 0 ≤ d → d < many → Q (.int d) H'
theorem scTake : FnScope ["_law_state", "_law_many", "_law_turns", "_law_digit"] ["_law_state", "_law_many"] (defScope sTake) := ⟨rfl, rfl, rfl, by decide +kernel, rfl, by decide +kernel, by decide +kernel⟩
theorem StA.put {st : Addr} {H : Hp} {c : Addr} {i n : Int} {f : Bool} {xs : List Int} (h2 : H c = some (.lst (xs.map V.int))) (h3 : xs.length ≤ 63) (h4 : c ≠ st) : StA st c (upd H st (.lst [.ref c, .int i, .int n, .bl f])) :=
  ⟨i, n, f, xs, upd_same, by rw [upd_ne h4]; exact h2, h3, h4⟩
theorem ok_take {f : Addr} {fd : FuncData} (F : Fun K "_law_take" "_law_take" sTake f fd) (fl : Cl P w K mg base CX0 2 "_law_fill" spFill []) : FnOk P w K mg base CX0 3 f fd ["_law_state", "_law_many"] spTake := by
  refine F.ok scTake (fun vs H Q E h => ?_) (fun cdv A outer s H vs Q E hr h => ?_)
  · obtain ⟨a, _, b, rfl, _⟩ := h
    rfl
  · obtain ⟨st, c, many, rfl, m0, m1, hst, q⟩ := h
    refine ⟨_, pss_cons (ps_set (i := 2) scTake.nd rfl (.inl rfl) pe_int)
      (pss_cons (ps_while PassesOwn.never
        (PW.pt (pw_and (pt_cmpR op_lt (pv 2) pe_int (nomark _)) (pw_and1 (PW.pt (pw_or (pt_cmpR op_eq (pe_ix ix_list (pv 0) pe_int (fun _ _ => rfl)) pe_int (nomark _))
          (pw_or1 (PW.pt (pw_and (pt_val (pe_ix ix_list (pv 0) pe_int (fun _ _ => rfl))) (pw_and1 (pt_cmpR op_lt (pe_ix ix_list (pv 0) pe_int (fun _ _ => rfl)) (pe_op op_mul (pv 1) pe_int) (nomark _)))))))))))
        (pss_cons (ps_expr (pc0 fl hr (by decide) (pa_cons (pv 0) pa_nil)))
        (pss_cons (ps_aug (i := 2) scTake.nd rfl (.inl rfl) pe_int ip_add)
        (pss_one (ps_if (PW.pt (pw_and (pt_val (pe_ix ix_list (pv 0) pe_int (fun _ _ => rfl))) (pw_and1 (pt_cmpR op_lt (pe_ix ix_list (pv 0) pe_int (fun _ _ => rfl)) (pe_op op_mul (pv 1) pe_int) (nomark _)))))
          (pss_one (ps_asg (pe_op op_add (pe_ix ix_list (pv 0) pe_int (fun _ _ => rfl)) (pe_op op_mul (pe_op op_mul (pv 1) pe_int) (pe_op op_add pe_int (pe_op op_mod (pe_ix ix_list (pv 0) pe_int (fun _ _ => rfl)) pe_int)))) (pg_sub (pv 0) pe_int set_list))) pss_nil)))))
      (pss_cons (ps_set (i := 3) scTake.nd rfl (.inl rfl) (pe_op op_mod (pe_ix ix_list (pv 0) pe_int (fun _ _ => rfl)) (pv 1)))
      (pss_cons (ps_asg (pe_op op_fdivW (pe_ix ix_list (pv 0) pe_int (fun _ _ => rfl)) (pv 1)) (pg_sub (pv 0) pe_int set_list))
      (pss_one (ps_ret (pv 3)))))), ?_⟩
    refine ⟨fun m σ H' => ∃ (tn : Int) (y3 : Option V), σ = [some (.ref st), some (.int many), some (.int tn), y3] ∧ But st H H' ∧ StA st c H' ∧ m = (64 - tn).toNat,
      ⟨64, 0, none, rfl, But.refl _ _, hst, rfl⟩, fun m σ H1 hW => ?_⟩
    obtain ⟨tn, y3, rfl, bt, sa, rfl⟩ := hW
    obtain ⟨i, n, b, xs, h1, h2, h3, h4⟩ := id sa
    refine ⟨_, rfl, tn, 64, rfl, rfl, _, rfl, ite2 (fun e => ?n2) (fun e => iteF ?ex1)⟩
    case' n2 => refine ⟨_, rfl, st, _, 2, _, rfl, rfl, SqL.of h1, atI_nat (j := 2) rfl, rfl, _, rfl, ite2 (fun e1 => iteT ?bd1) (fun e1 => ?n3)⟩
    case' n3 => refine ⟨_, rfl, st, _, 3, _, rfl, rfl, SqL.of h1, atI_nat (j := 3) rfl, _, rfl, ite2 (fun e2 => ?n4) (fun e2 => iteF ?ex2)⟩
    case' n4 => refine ⟨_, rfl, st, _, 2, _, rfl, rfl, SqL.of h1, atI_nat (j := 2) rfl, _, rfl, many, 4096, rfl, rfl, .inr ⟨by decide, by decide⟩, n, _, rfl, rfl, _, rfl, ite2 (fun e3 => ?bd2) (fun e3 => ?ex3)⟩
    case ex1 | ex2 | ex3 =>
      refine ⟨_, rfl, st, _, 2, _, rfl, rfl, SqL.of h1, atI_nat (j := 2) rfl, _, rfl, n, many, rfl, rfl, m0, ?_⟩
      refine ⟨_, rfl, st, _, 2, _, rfl, rfl, SqL.of h1, atI_nat (j := 2) rfl, _, rfl, n, many, rfl, rfl, wide_div m0 m1 (by decide) (by decide), _, rfl, st, _, 2, 2, rfl, rfl, h1, rfl, ?_⟩
      exact ⟨_, rfl, q _ _ (bt.trans But.upd) (StA.put h2 h3 h4) (Int.emod_nonneg _ (by omega)) (Int.emod_lt_of_pos _ m0)⟩
    case bd1 | bd2 =>
      have e' : tn < 64 := of_decide_eq_true e
      refine ⟨fun σ' H' => ∃ (tn' : Int) (y3 : Option V), σ' = [some (.ref st), some (.int many), some (.int tn'), y3] ∧ But st H H' ∧ StA st c H' ∧ tn' = tn + 1, fun σ' H' hN => ?_, ?_⟩
      · obtain ⟨t', y', r1, r2, r3, r4⟩ := hN
        exact ⟨_, by omega, t', y', r1, r2, r3, rfl⟩
      · refine ⟨_, rfl, st, c, rfl, sa, fun H2 b2 s2 => ?_⟩
        obtain ⟨i, n, b, xs, h1, h2, h3, h4⟩ := id s2
        refine ⟨_, rfl, _, _, rfl, rfl, ?_⟩
        refine ⟨_, rfl, st, _, 3, _, rfl, rfl, SqL.of h1, atI_nat (j := 3) rfl, _, rfl, ite2 (fun e2 => ?_) (fun e2 => iteF ?_)⟩
        · refine ⟨_, rfl, st, _, 2, _, rfl, rfl, SqL.of h1, atI_nat (j := 2) rfl, _, rfl, many, 4096, rfl, rfl, .inr ⟨by decide, by decide⟩, n, _, rfl, rfl, _, rfl, ite2 (fun e3 => ?_) (fun e3 => ?_)⟩
          · refine ⟨_, rfl, st, _, 2, _, rfl, rfl, SqL.of h1, atI_nat (j := 2) rfl, _, rfl, many, 4096, rfl, rfl, .inr ⟨by decide, by decide⟩, _, rfl, st, _, 2, _, rfl, rfl, SqL.of h1, atI_nat (j := 2) rfl, n, 4093, rfl, rfl, (by show (0 : Int) < 4093; decide), 1, n % 4093, rfl, rfl, _, 1 + n % 4093, rfl, rfl, .inr ⟨by omega, by omega⟩, n, _, rfl, rfl, ?_⟩
            refine ⟨_, rfl, st, _, 2, 2, rfl, rfl, h1, rfl, ?_⟩
            exact ⟨_, _, rfl, (bt.trans b2).trans But.upd, StA.put h2 h3 h4, rfl⟩
          · exact ⟨_, _, rfl, bt.trans b2, s2, rfl⟩
        · exact ⟨_, _, rfl, bt.trans b2, s2, rfl⟩
end
end SS
namespace SS
open PySem PySem.Spec PyProof.Rows L2
section
variable {P : Program} {w : World} {K : PySem.W.Frag} {mg : Str → Option Value} {base : Heap}
/-! ### a whole number, a fraction by the law's own look -/
def spWhole : Sp := fun vs H Q _ => ∃ i : Int, vs = [.int i] ∧ Q (.bl true) H
theorem scWhole : FnScope ["_law_thing"] ["_law_thing"] (defScope sWhole) := ⟨rfl, rfl, rfl, by decide +kernel, rfl, by decide +kernel, by decide +kernel⟩
theorem ok_whole {f : Addr} {fd : FuncData} {k : Nat} (F : Fun K "_law_whole" "_law_whole" sWhole f fd) (mi : mg "isinstance" = none) (mn : mg "int" = none) (mb : mg "bool" = none) : FnOk P w K mg base CX0 (k + 1) f fd ["_law_thing"] spWhole := by
  refine F.ok scWhole (fun vs H Q E h => ?_) (fun cdv A outer s H vs Q E hr h => ?_)
  · obtain ⟨a, rfl, _⟩ := h
    rfl
  · obtain ⟨i, rfl, q⟩ := h
    refine ⟨_, pss_one (ps_ret (pe_and (pe_callB call_isi (by rfl) mi boot_isinstance (pa_cons (pv 0) (pa_cons (pe_bltn (v := .ty "int") (u := .type "int") (by rfl) mn (by decide +kernel) rfl) pa_nil)))
      (pe_one (pe_not (pe_callB call_isi (by rfl) mi boot_isinstance (pa_cons (pv 0) (pa_cons (pe_bltn (v := .ty "bool") (u := .type "bool") (by rfl) mb (by decide +kernel) rfl) pa_nil))))))), ?_⟩
    refine ⟨_, rfl, .int i, .ty "int", .type "int", .type "int", true, rfl, .ty _, .base (.int i), kit_ty (by decide +kernel), _, rfl, iteT ?_⟩
    exact ⟨_, rfl, .int i, .ty "bool", .type "int", .type "bool", false, rfl, .ty _, .base (.int i), kit_ty (by decide +kernel), _, rfl, q⟩
def spIsf : Sp := fun vs H Q _ => ∃ (p : Addr) (n d : Int), vs = [.ref p] ∧ H p = some (.tup [.int n, .int d]) ∧ 0 < d ∧ Int.gcd n d = 1 ∧ ∀ H', Same H H' → Q (.bl true) H'
theorem scIsf : FnScope ["_law_thing", "_law_part"] ["_law_thing"] (defScope sIsf) := ⟨rfl, rfl, rfl, by decide +kernel, rfl, by decide +kernel, by decide +kernel⟩
theorem ok_isf {f : Addr} {fd : FuncData} (F : Fun K "_law_is_fraction" "_law_is_fraction" sIsf f fd) (mi : mg "isinstance" = none) (mt : mg "tuple" = none) (ml : mg "len" = none) (ma : mg "all" = none)
    (wh : Cl P w K mg base CX0 1 "_law_whole" spWhole []) (sh : Cl P w K mg base CX0 1 "_law_shared" spGcd []) : FnOk P w K mg base CX0 2 f fd ["_law_thing"] spIsf := by
  refine F.ok scIsf (fun vs H Q E h => ?_) (fun cdv A outer s H vs Q E hr h => ?_)
  · obtain ⟨a, _, _, rfl, _⟩ := h
    rfl
  · obtain ⟨p, n, d, rfl, hp, hd, hg, q⟩ := h
    refine ⟨_, pss_cons (ps_if (PW.pt (pw_or (pt_not (pt_val (pe_callB call_isi (by rfl) mi boot_isinstance (pa_cons (pv 0) (pa_cons (pe_bltn (v := .ty "tuple") (u := .type "tuple") (by rfl) mt (by decide +kernel) rfl) pa_nil)))))
        (pw_or (pt_cmpR op_ne (pe_callB call_len_seq (by rfl) ml PySem.boot_len (pa_cons (pv 0) pa_nil)) pe_int (nomark _))
        (pw_or1 (pt_not (pt_val (pe_callB (cr_all rfl) (by rfl) ma boot_all (pa_cons
          (pe_lc (own := [("_law_part", 1)]) (g := gName 1) (tt := tYes) rfl scIsf.nd (pi_tup (pv 0)) (blkOk_by (N := ["_law_thing", "_law_part"]) (sc := defScope sIsf) (by decide +kernel))
            (fun _ _ _ _ _ => pg_name (i := 1) scIsf.nd rfl (Or.inl rfl)) (fun _ _ _ _ _ => pts_nil) (fun _ _ _ _ _ => pc0 wh hr (by decide) (pa_cons (pv 1) pa_nil))) pa_nil))))))))
        (pss_one (ps_ret pe_bl)) pss_nil)
      (pss_one (ps_ret (pe_and (pe_cmpR op_gt (pe_ix ix_tup (pv 0) pe_int (fun _ _ => rfl)) pe_int (nomark _))
        (pe_one (pe_cmpR op_eq (pc0 sh hr (by decide) (pa_cons (pe_ix ix_tup (pv 0) pe_int (fun _ _ => rfl)) (pa_cons (pe_ix ix_tup (pv 0) pe_int (fun _ _ => rfl)) pa_nil))) pe_int (nomark _)))))), ?_⟩
    refine ⟨_, rfl, .ref p, .ty "tuple", .type "tuple", .type "tuple", true, rfl, .ty _, .base (.tup hp), kit_ty (by decide +kernel), _, rfl, iteF ?_⟩
    refine ⟨_, rfl, p, _, rfl, .inr (SqT.of hp), rfl, _, rfl, iteNS rfl ?_⟩
    refine ⟨_, rfl, p, rfl, ⟨_, SqT.of hp⟩, fun D nD => lc_tup (K := K) (a := p) (xs := [.int n, .int d]) (fun i H' => H' D = some (.lst (List.replicate i (.bl true))) ∧ ∀ b o, b ≠ D → H b = some o → H' b = some o)
      ⟨upd_same, fun b o nb e => by rw [upd_ne nb]; exact e⟩ (fun i H' _ hW => SqT.of (hW.2 _ _ (ne_of_none hp nD) hp)) ?_ ?_⟩
    · rintro i x H' hx ⟨w1, w2⟩
      obtain ⟨z, rfl⟩ : ∃ z : Int, x = .int z := by
        match i, hx with
        | 0, hx => exact ⟨n, (Option.some.inj hx).symm⟩
        | 1, hx => exact ⟨d, (Option.some.inj hx).symm⟩
      have hi : i < 2 := by
        have zz := (List.getElem?_eq_some_iff.mp hx).1
        exact zz
      refine ⟨rfl, _, rfl, z, rfl, _, w1, ?_, ?_, ?_⟩
      · rw [List.length_replicate]
        exact small1000 (by omega)
      · rw [upd_same, List.replicate_succ']
      · intro b o nb e
        rw [upd_ne nb]
        exact w2 b o nb e
    · rintro H' ⟨w1, w2⟩
      refine ⟨D, [true, true], rfl, SqL.of w1, _, rfl, iteF ?_⟩
      have sm : Same H H' := fun b o e => w2 b o (ne_of_none e nD) e
      have hp' := sm _ _ hp
      refine ⟨_, rfl, p, _, 1, _, rfl, rfl, SqT.of hp', atI_nat (j := 1) rfl, d, 0, rfl, rfl, true, congrArg V.bl (decide_eq_true hd), iteT ?_⟩
      refine ⟨_, rfl, p, _, 0, _, rfl, rfl, SqT.of hp', atI_nat (j := 0) rfl, _, rfl, p, _, 1, _, rfl, rfl, SqT.of hp', atI_nat (j := 1) rfl, n, d, rfl, rfl, ?_⟩
      rw [hg]
      exact q _ sm
end
end SS
namespace SS
open PySem PySem.Spec PyProof.Rows L2
theorem sm_mul {i j : Int} {a b : Nat} (ha : i.natAbs < 2 ^ a) (hb : j.natAbs < 2 ^ b) : (i * j).natAbs < 2 ^ (a + b) := wide_lt ha hb
theorem sm_add {i j : Int} {a : Nat} (ha : i.natAbs < 2 ^ a) (hb : j.natAbs < 2 ^ a) : (i + j).natAbs < 2 ^ (a + 1) := by
  rw [Nat.pow_succ]
  omega
theorem sm_sub {i j : Int} {a : Nat} (ha : i.natAbs < 2 ^ a) (hb : j.natAbs < 2 ^ a) : (i - j).natAbs < 2 ^ (a + 1) := by
  rw [Nat.pow_succ]
  omega
theorem sm_mono {i : Int} {a b : Nat} (ha : i.natAbs < 2 ^ a) (h : a ≤ b) : i.natAbs < 2 ^ b := Nat.lt_of_lt_of_le ha (Nat.pow_le_pow_right (by decide) h)
theorem pos_ne {a b : Int} (h1 : 0 < a) (h2 : 0 < b) : a * b ≠ 0 := Int.ne_of_gt (Int.mul_pos h1 h2)
end SS
namespace SS
open PySem PySem.Spec PyProof.Rows L2
theorem lt8 {n : Int} (h : n.natAbs < 2 ^ 100) : n.natAbs < 2 ^ 8000 := sm_mono h (by decide)
theorem pe_when {X : Cx} {p : Prop} {e : Expr} {t : TE} (h : p → PE X e t) : PE X e (fun σ H Q => p ∧ t σ H Q) := ⟨fun pins s σ H Q I z => (h z.1).run pins s σ H Q I z.2⟩
/-! ### isinstance(e, (c1, c2, ..)) of the error that a suite holds -/
def rIsET (K : PySem.W.Frag) (D a : Addr) : List V → Hp → VK → Prop := fun xs H Q => ∃ (tp : Addr) (cs : List V) (us : List Value) (b : Bool),
  xs = [.ref a, .ref tp] ∧ H tp = some (.tup cs) ∧ Paired ClsV cs us ∧ PySem.W.kitAny K (.ref D) us = some b ∧ Q (.bl b) H
theorem call_isET {X : Cx} {a D : Addr} {oe : Obj} {pn : List (Addr × Obj)} (C : ExcC X.K D) (hz : Zc (.ref D) none oe) (hf : ∃ vs, oe.data = .fields vs) :
    CallR (X.suite a ((a, oe) :: pn)) (.builtin "isinstance") (rIsET X.K D a) := by
  intro pins s σ H xs us Q I rr hh
  obtain ⟨tp, cs, ws, b, rfl, hT, pr, ek, q⟩ := hh
  obtain ⟨v1, v2, rfl, ra, rt⟩ := vals2 rr
  cases (show v2 = Value.ref tp from rt)
  cases (show v1 = Value.ref a from ra)
  obtain ⟨got, _⟩ := I.pin (a, oe) (List.mem_append.mpr (.inl List.mem_cons_self))
  obtain ⟨fs, hv⟩ := hf
  have J : PySem.W.InstAt s.heap a oe D none := by
    obtain ⟨o1, o2, o3, o4⟩ := oe
    obtain ⟨w1, w2⟩ := hz
    dsimp only at w1 w2 hv
    subst w1 w2 hv
    exact ⟨got, rfl, rfl, trivial⟩
  obtain ⟨_, its, rv, ot, t1, t2, n, t3⟩ := (show ObjOk X.prog X.w H s.heap tp (.tup cs) from I.hok tp _ hT)
  have ec := ClsV.all pr rv
  subst ec
  obtain ⟨c1, c2, c3, c4⟩ := ot
  simp only at t2 t3
  subst t2 t3
  exact PySem.W.kia_tup (PySem.W.handS_kitx_exc C.hg C.hk C.hs C.hd C.ha C.hn C.ht C.hm) I.kIn J t1 ek
    (fun z => nomatch z) fun tk => ⟨.bl b, H, I.kept (t' := tk) fun _ _ z => z, rfl, q⟩
/-! ### the sixteen classes: the fifteen refusals, then StoreError -/
abbrev nms : List Str := ["NoFraction", "NoRow", "NoName", "Stands", "Full", "NoLevel", "NoMark", "NothingDone", "NoPoint", "NoStep", "NoNumber", "NoNames", "NoText", "NoLine", "NoWord", "StoreError"]
structure C16 (K : PySem.W.Frag) (mg : Str → Option Value) (Cs : Nat → Addr) : Prop where
  ext : ∀ i, i < 16 → ExT K mg (nms.getD i "") (Cs i)
  exc : ∀ i, i < 16 → ExcC K (Cs i)
  kit : ∀ i j, i < 16 → j < 15 → PySem.W.kitOne K (.ref (Cs i)) (.ref (Cs j)) = some (decide (i = j))
  kve : ∀ i, i < 16 → PySem.W.kitOne K (.ref (Cs i)) (.type "ValueError") = some true
  exm : ∀ i, i < 16 → PySem.W.exmOne K (.ref (Cs i)) (.ref (Cs 15)) = some true
section
variable {P : Program} {w : World} {K : PySem.W.Frag} {mg : Str → Option Value} {base : Heap}
def spWn : Sp := fun vs H Q _ => ∃ st c : Addr, vs = [.ref st] ∧ StA st c H ∧ ∀ H' (z : Int), But st H H' → StA st c H' → z.natAbs < 2 ^ 100 → Q (.int z) H'
theorem scWn : FnScope ["_law_state", "_law_small", "_law_great", "_law_some"] ["_law_state"] (defScope sWn) := ⟨rfl, rfl, rfl, by decide +kernel, rfl, by decide +kernel, by decide +kernel⟩
theorem ok_wn {f : Addr} {fd : FuncData} (F : Fun K "_law_whole_number" "_law_whole_number" sWn f fd) (tk : Cl P w K mg base CX0 3 "_law_take" spTake []) : FnOk P w K mg base CX0 4 f fd ["_law_state"] spWn := by
  refine F.ok scWn (fun vs H Q E h => ?_) (fun cdv A outer s H vs Q E hr h => ?_)
  · obtain ⟨_, _, rfl, _⟩ := h
    rfl
  · obtain ⟨st, c, rfl, sa, q⟩ := h
    refine ⟨_, pss_cons (ps_set (i := 1) scWn.nd rfl (.inl rfl) (pe_op op_sub (pc0 tk hr (by decide) (pa_cons (pv 0) (pa_cons pe_int pa_nil))) pe_int))
      (pss_cons (ps_set (i := 2) scWn.nd rfl (.inl rfl) (pe_op op_sub (pc0 tk hr (by decide) (pa_cons (pv 0) (pa_cons (pe_op op_pow pe_int pe_int) pa_nil))) (pe_op op_mul pe_int (pe_op op_pow pe_int pe_int))))
      (pss_cons (ps_set (i := 3) scWn.nd rfl (.inl rfl) (pe_tup (pa_cons (pv 1) (pa_cons (pe_op op_mul (pv 1) pe_int) (pa_cons (pe_op op_add (pe_op op_pow pe_int pe_int) (pv 1)) (pa_cons (pv 2) (pa_cons (pe_op op_mul pe_int (pv 1)) (pa_cons pe_int pa_nil))))))))
      (pss_one (ps_ret (pe_ix ix_tup (pv 3) (pc0 tk hr (by decide) (pa_cons (pv 0) (pa_cons pe_int pa_nil))) (fun _ _ => rfl)))))), ?_⟩
    refine ⟨_, rfl, st, c, 40, rfl, by decide, lt8 (by decide), sa, fun H1 d1 b1 s1 l1 u1 => ⟨d1, 20, rfl, rfl, ?_⟩⟩
    refine ⟨_, rfl, 10, 30, rfl, rfl, ⟨by decide, by decide, by decide⟩, st, c, 10 ^ 30, rfl, by decide, lt8 (by decide), s1, fun H2 d2 b2 s2 l2 u2 => ?_⟩
    refine ⟨10, 29, rfl, rfl, ⟨by decide, by decide, by decide⟩, 5, 10 ^ 29, rfl, rfl, .inl ⟨by decide, by decide⟩, d2, 5 * 10 ^ 29, rfl, rfl, ?_⟩
    obtain ⟨sm, hsm⟩ : ∃ sm, d1 - 20 = sm := ⟨_, rfl⟩
    obtain ⟨gr, hgr⟩ : ∃ gr, d2 - 5 * 10 ^ 29 = gr := ⟨_, rfl⟩
    have k1 : sm.natAbs ≤ 20 := by omega
    have k2 : gr.natAbs < 2 ^ 100 := by omega
    refine ⟨_, rfl, _, rfl, sm, 6, congrArg V.int hsm, rfl, .inr ⟨by decide, by decide⟩, 2, 40, rfl, rfl, ⟨by decide, by decide, by decide⟩, _, rfl, 2 ^ 40, sm, rfl, congrArg V.int hsm, _, rfl, _, rfl, 12, sm, rfl, congrArg V.int hsm, .inl ⟨by decide, by decide⟩, by show 6 ≤ sizeLine; decide, fun U nU => ?_⟩
    have sU := same_new (o := .tup [.int (d1 - 20), .int (sm * 6), .int (2 ^ 40 + sm), .int (d2 - 5 * 10 ^ 29), .int (12 * sm), .int 0]) nU
    refine ⟨_, rfl, _, rfl, st, c, 6, rfl, by decide, lt8 (by decide), s2.same sU, fun H3 d3 b3 s3 l3 u3 => ?_⟩
    have hU : H3 U = some (.tup [.int (d1 - 20), .int (sm * 6), .int (2 ^ 40 + sm), .int (d2 - 5 * 10 ^ 29), .int (12 * sm), .int 0]) := b3.tup (s2.same sU) upd_same
    obtain ⟨z, hz, kz⟩ : ∃ z : Int, atI [V.int (d1 - 20), V.int (sm * 6), V.int (2 ^ 40 + sm), V.int (d2 - 5 * 10 ^ 29), V.int (12 * sm), V.int 0] d3 = some (.int z) ∧ z.natAbs < 2 ^ 100 := by
      rcases (show d3 = 0 ∨ d3 = 1 ∨ d3 = 2 ∨ d3 = 3 ∨ d3 = 4 ∨ d3 = 5 by omega) with e | e | e | e | e | e <;> subst e
      · exact ⟨_, rfl, by omega⟩
      · exact ⟨_, rfl, by omega⟩
      · exact ⟨_, rfl, by omega⟩
      · exact ⟨_, rfl, by omega⟩
      · exact ⟨_, rfl, by omega⟩
      · exact ⟨_, rfl, by decide⟩
    exact ⟨U, _, d3, _, rfl, rfl, SqT.of hU, hz, q _ z (((b1.trans b2).trans (Same.but sU)).trans b3) s3 kz⟩
end
end SS
namespace SS
open PySem PySem.Spec PyProof.Rows L2
theorem kitAny_no {K : PySem.W.Frag} {t : Value} : ∀ {us : List Value}, (∀ u ∈ us, PySem.W.kitOne K t u = some false) → PySem.W.kitAny K t us = some false
  | [], _ => rfl
  | u :: us, h => by
    unfold PySem.W.kitAny
    rw [h u (List.mem_cons_self ..)]
    exact kitAny_no fun v hv => h v (List.mem_cons_of_mem _ hv)
section
variable {P : Program} {w : World} {K : PySem.W.Frag} {mg : Str → Option Value} {base : Heap} {Cs : Nat → Addr}
def spRef : Sp := fun vs H Q _ => ∃ t : Int, vs = [.int t, .int 0] ∧ ∀ H', Same H H' → Q (.bl true) H'
theorem scRef : FnScope ["_law_top", "_law_bottom", "_law_refused_here", "e"] ["_law_top", "_law_bottom"] (defScope sRef) := ⟨rfl, rfl, rfl, by decide +kernel, rfl, by decide +kernel, by decide +kernel⟩
theorem C16.no (T : C16 K mg Cs) {us : List Value} (h : ∀ u ∈ us, ∃ j, 0 < j ∧ j < 15 ∧ u = .ref (Cs j)) : PySem.W.kitAny K (.ref (Cs 0)) us = some false := kitAny_no fun u hu => by
  obtain ⟨j, h0, h1, rfl⟩ := h u hu
  rw [T.kit 0 j (by decide) h1]
  exact congrArg some (decide_eq_false (by omega))
theorem ok_ref {f : Addr} {fd : FuncData} (F : Fun K "_law_refused" "_law_refused" sRef f fd) (T : C16 K mg Cs) (mi : mg "isinstance" = none) (mv : mg "ValueError" = none)
    (fo : Cl P w K mg base (L2.CX P w) 2 "fraction_of" (spFo (Cs 0)) []) : FnOk P w K mg base CX0 3 f fd ["_law_top", "_law_bottom"] spRef := by
  have hk : 0 < 16 := by decide
  refine F.ok scRef (fun vs H Q E h => ?_) (fun cdv A outer s H vs Q E hr h => ?_)
  · obtain ⟨_, rfl, _⟩ := h
    rfl
  · obtain ⟨t, rfl, q⟩ := h
    refine ⟨_, pss_cons (ps_set (i := 2) scRef.nd rfl (.inl rfl) pe_bl)
      (pss_cons (ps_try_as (i := 3) (Wout := fun _ _ _ _ => False) rfl rfl scRef.nd rfl rfl ⟨rfl, by decide, .inl (T.ext 15 (by decide)).gC⟩ takes0
        (fun W pn xe tk _ => pss_one (ps_expr (pcS fo hr (by decide) (fun σ => passAt tk σ) (pa_cons (pv 0) (pa_cons (pv 1) pa_nil)))))
        (fun a oe cls d pn hz hf => pss_cons (ps_set (i := 2) scRef.nd rfl (.inl rfl) (pe_and (pe_when (p := cls = .ref (Cs 0) ∧ d = none) (fun ⟨e1, e2⟩ => pe_callB (call_isE (D := Cs 0) (T.exc 0 hk) (by rw [← e1, ← e2]; exact hz) hf) (by rfl) mi boot_isinstance (pa_cons (pv 3) (pa_cons (pe_glob (v := .ref (Cs 0)) (by rfl) (T.ext 0 (by decide)).gC rfl) pa_nil)))) (pe_one (pe_when (p := cls = .ref (Cs 0) ∧ d = none) (fun ⟨e1, e2⟩ => pe_callB (call_isE (D := Cs 0) (T.exc 0 hk) (by rw [← e1, ← e2]; exact hz) hf) (by rfl) mi boot_isinstance (pa_cons (pv 3) (pa_cons (pe_bltn (v := .ty "ValueError") (u := .type "ValueError") (by rfl) mv (by decide +kernel) rfl) pa_nil)))))))
          (pss_cons (ps_if (pt_val (pe_when (p := cls = .ref (Cs 0) ∧ d = none) (fun ⟨e1, e2⟩ => pe_callB (call_isET (D := Cs 0) (T.exc 0 hk) (by rw [← e1, ← e2]; exact hz) hf) (by rfl) mi boot_isinstance (pa_cons (pv 3) (pa_cons (pe_tup (pa_cons (pe_glob (v := .ref (Cs 4)) (by rfl) (T.ext 4 (by decide)).gC rfl) (pa_cons (pe_glob (v := .ref (Cs 5)) (by rfl) (T.ext 5 (by decide)).gC rfl) (pa_cons (pe_glob (v := .ref (Cs 13)) (by rfl) (T.ext 13 (by decide)).gC rfl) (pa_cons (pe_glob (v := .ref (Cs 6)) (by rfl) (T.ext 6 (by decide)).gC rfl) (pa_cons (pe_glob (v := .ref (Cs 2)) (by rfl) (T.ext 2 (by decide)).gC rfl) (pa_cons (pe_glob (v := .ref (Cs 11)) (by rfl) (T.ext 11 (by decide)).gC rfl) (pa_cons (pe_glob (v := .ref (Cs 10)) (by rfl) (T.ext 10 (by decide)).gC rfl) (pa_cons (pe_glob (v := .ref (Cs 8)) (by rfl) (T.ext 8 (by decide)).gC rfl) (pa_cons (pe_glob (v := .ref (Cs 1)) (by rfl) (T.ext 1 (by decide)).gC rfl) (pa_cons (pe_glob (v := .ref (Cs 9)) (by rfl) (T.ext 9 (by decide)).gC rfl) pa_nil))))))))))) pa_nil))))) (pss_one (ps_set (i := 2) scRef.nd rfl (.inl rfl) pe_bl)) pss_nil)
          (pss_one (ps_if (pt_val (pe_when (p := cls = .ref (Cs 0) ∧ d = none) (fun ⟨e1, e2⟩ => pe_callB (call_isET (D := Cs 0) (T.exc 0 hk) (by rw [← e1, ← e2]; exact hz) hf) (by rfl) mi boot_isinstance (pa_cons (pv 3) (pa_cons (pe_tup (pa_cons (pe_glob (v := .ref (Cs 12)) (by rfl) (T.ext 12 (by decide)).gC rfl) (pa_cons (pe_glob (v := .ref (Cs 7)) (by rfl) (T.ext 7 (by decide)).gC rfl) (pa_cons (pe_glob (v := .ref (Cs 14)) (by rfl) (T.ext 14 (by decide)).gC rfl) (pa_cons (pe_glob (v := .ref (Cs 3)) (by rfl) (T.ext 3 (by decide)).gC rfl) pa_nil))))) pa_nil))))) (pss_one (ps_set (i := 2) scRef.nd rfl (.inl rfl) pe_bl)) pss_nil)))))
      (pss_one (ps_ret (pv 2)))), ?_⟩
    refine ⟨_, rfl, _, rfl, t, 0, rfl, fun _ => ?_, fun z => absurd rfl z⟩
    refine ⟨true, T.exm 0 hk, fun _ a ha => ?_, fun z => Bool.noConfusion z⟩
    refine ⟨⟨rfl, rfl⟩, _, rfl, _, _, true, rfl, fun u r => r, T.kit 0 0 hk (by decide), _, rfl, iteT ?_⟩
    refine ⟨⟨rfl, rfl⟩, _, rfl, _, _, true, rfl, fun u r => r, T.kve 0 hk, ?_⟩
    refine ⟨⟨rfl, rfl⟩, _, rfl, by show 10 ≤ sizeLine; decide, fun U nU => ?_⟩
    refine ⟨U, _, [.ref (Cs 4), .ref (Cs 5), .ref (Cs 13), .ref (Cs 6), .ref (Cs 2), .ref (Cs 11), .ref (Cs 10), .ref (Cs 8), .ref (Cs 1), .ref (Cs 9)], false, rfl, upd_same, (.cons (.own _) (.cons (.own _) (.cons (.own _) (.cons (.own _) (.cons (.own _) (.cons (.own _) (.cons (.own _) (.cons (.own _) (.cons (.own _) (.cons (.own _) .nil)))))))))), T.no (by
      intro u hu
      simp only [List.mem_cons, List.not_mem_nil, or_false] at hu
      rcases hu with rfl | rfl | rfl | rfl | rfl | rfl | rfl | rfl | rfl | rfl <;> exact ⟨_, by decide, by decide, rfl⟩), _, rfl, iteF ?_⟩
    refine ⟨⟨rfl, rfl⟩, _, rfl, by show 4 ≤ sizeLine; decide, fun U2 nU2 => ?_⟩
    refine ⟨U2, _, [.ref (Cs 12), .ref (Cs 7), .ref (Cs 14), .ref (Cs 3)], false, rfl, upd_same, (.cons (.own _) (.cons (.own _) (.cons (.own _) (.cons (.own _) .nil)))), T.no (by
      intro u hu
      simp only [List.mem_cons, List.not_mem_nil, or_false] at hu
      rcases hu with rfl | rfl | rfl | rfl <;> exact ⟨_, by decide, by decide, rfl⟩), _, rfl, iteF ?_⟩
    exact ⟨_, rfl, q _ ((same_new nU).trans (same_new nU2))⟩
def spRai (Cs : Nat → Addr) : Sp := fun vs H Q E => ∃ (k : Nat) (t : Str), k < 16 ∧ vs = [.int (k : Int), .str t] ∧ E (.ref (Cs k)) none H
theorem scRai : FnScope ["_law_which", "_law_text"] ["_law_which", "_law_text"] (defScope sRai) := ⟨rfl, rfl, rfl, by decide +kernel, rfl, by decide +kernel, by decide +kernel⟩
theorem eq_int {i : Nat} {j : Int} (h : decide (V.int (i : Int) = V.int j) = true) : (i : Int) = j := V.int.inj (of_decide_eq_true h)
theorem ne_int' {i : Nat} {j : Int} (h : ¬ decide (V.int (i : Int) = V.int j) = true) : (i : Int) ≠ j := fun z => h (decide_eq_true (congrArg V.int z))
theorem ok_rai {f : Addr} {fd : FuncData} {k : Nat} (F : Fun K "_law_raised" "_law_raised" sRai f fd) (T : C16 K mg Cs) : FnOk P w K mg base (L2.CX P w) (k + 1) f fd ["_law_which", "_law_text"] (spRai Cs) := by
  refine F.okX scRai (fun vs H Q E h => ?_) (fun cdv A outer s H vs Q E hr h => ?_)
  · obtain ⟨_, _, _, rfl, _⟩ := h
    rfl
  · obtain ⟨k, t, hk, rfl, q⟩ := h
    have key : ∀ j : Nat, decide (V.int (k : Int) = V.int (j : Int)) = true → E (.ref (Cs j)) none H := fun j e => by
      have z := eq_int e
      have z2 : k = j := by omega
      subst z2
      exact q
    refine ⟨_, (pss_cons (ps_if (pt_cmpR op_eq (pv 0) pe_int (nomark _)) (pss_one (ps_raise rfl (takes_of rfl rfl rfl rfl) (SkE.pmk_own1 PySem.F.excBase_ValueError (T.ext 0 (by decide)).xC (T.ext 0 (by decide)).gC (T.ext 0 (by decide)).kC (raises_own (T.ext 0 (by decide)).bC (T.ext 0 (by decide)).tC) (by exact rfl) (pv 1)))) pss_nil)
      (pss_cons (ps_if (pt_cmpR op_eq (pv 0) pe_int (nomark _)) (pss_one (ps_raise rfl (takes_of rfl rfl rfl rfl) (SkE.pmk_own1 PySem.F.excBase_ValueError (T.ext 1 (by decide)).xC (T.ext 1 (by decide)).gC (T.ext 1 (by decide)).kC (raises_own (T.ext 1 (by decide)).bC (T.ext 1 (by decide)).tC) (by exact rfl) (pv 1)))) pss_nil)
      (pss_cons (ps_if (pt_cmpR op_eq (pv 0) pe_int (nomark _)) (pss_one (ps_raise rfl (takes_of rfl rfl rfl rfl) (SkE.pmk_own1 PySem.F.excBase_ValueError (T.ext 2 (by decide)).xC (T.ext 2 (by decide)).gC (T.ext 2 (by decide)).kC (raises_own (T.ext 2 (by decide)).bC (T.ext 2 (by decide)).tC) (by exact rfl) (pv 1)))) pss_nil)
      (pss_cons (ps_if (pt_cmpR op_eq (pv 0) pe_int (nomark _)) (pss_one (ps_raise rfl (takes_of rfl rfl rfl rfl) (SkE.pmk_own1 PySem.F.excBase_ValueError (T.ext 3 (by decide)).xC (T.ext 3 (by decide)).gC (T.ext 3 (by decide)).kC (raises_own (T.ext 3 (by decide)).bC (T.ext 3 (by decide)).tC) (by exact rfl) (pv 1)))) pss_nil)
      (pss_cons (ps_if (pt_cmpR op_eq (pv 0) pe_int (nomark _)) (pss_one (ps_raise rfl (takes_of rfl rfl rfl rfl) (SkE.pmk_own1 PySem.F.excBase_ValueError (T.ext 4 (by decide)).xC (T.ext 4 (by decide)).gC (T.ext 4 (by decide)).kC (raises_own (T.ext 4 (by decide)).bC (T.ext 4 (by decide)).tC) (by exact rfl) (pv 1)))) pss_nil)
      (pss_cons (ps_if (pt_cmpR op_eq (pv 0) pe_int (nomark _)) (pss_one (ps_raise rfl (takes_of rfl rfl rfl rfl) (SkE.pmk_own1 PySem.F.excBase_ValueError (T.ext 5 (by decide)).xC (T.ext 5 (by decide)).gC (T.ext 5 (by decide)).kC (raises_own (T.ext 5 (by decide)).bC (T.ext 5 (by decide)).tC) (by exact rfl) (pv 1)))) pss_nil)
      (pss_cons (ps_if (pt_cmpR op_eq (pv 0) pe_int (nomark _)) (pss_one (ps_raise rfl (takes_of rfl rfl rfl rfl) (SkE.pmk_own1 PySem.F.excBase_ValueError (T.ext 6 (by decide)).xC (T.ext 6 (by decide)).gC (T.ext 6 (by decide)).kC (raises_own (T.ext 6 (by decide)).bC (T.ext 6 (by decide)).tC) (by exact rfl) (pv 1)))) pss_nil)
      (pss_cons (ps_if (pt_cmpR op_eq (pv 0) pe_int (nomark _)) (pss_one (ps_raise rfl (takes_of rfl rfl rfl rfl) (SkE.pmk_own1 PySem.F.excBase_ValueError (T.ext 7 (by decide)).xC (T.ext 7 (by decide)).gC (T.ext 7 (by decide)).kC (raises_own (T.ext 7 (by decide)).bC (T.ext 7 (by decide)).tC) (by exact rfl) (pv 1)))) pss_nil)
      (pss_cons (ps_if (pt_cmpR op_eq (pv 0) pe_int (nomark _)) (pss_one (ps_raise rfl (takes_of rfl rfl rfl rfl) (SkE.pmk_own1 PySem.F.excBase_ValueError (T.ext 8 (by decide)).xC (T.ext 8 (by decide)).gC (T.ext 8 (by decide)).kC (raises_own (T.ext 8 (by decide)).bC (T.ext 8 (by decide)).tC) (by exact rfl) (pv 1)))) pss_nil)
      (pss_cons (ps_if (pt_cmpR op_eq (pv 0) pe_int (nomark _)) (pss_one (ps_raise rfl (takes_of rfl rfl rfl rfl) (SkE.pmk_own1 PySem.F.excBase_ValueError (T.ext 9 (by decide)).xC (T.ext 9 (by decide)).gC (T.ext 9 (by decide)).kC (raises_own (T.ext 9 (by decide)).bC (T.ext 9 (by decide)).tC) (by exact rfl) (pv 1)))) pss_nil)
      (pss_cons (ps_if (pt_cmpR op_eq (pv 0) pe_int (nomark _)) (pss_one (ps_raise rfl (takes_of rfl rfl rfl rfl) (SkE.pmk_own1 PySem.F.excBase_ValueError (T.ext 10 (by decide)).xC (T.ext 10 (by decide)).gC (T.ext 10 (by decide)).kC (raises_own (T.ext 10 (by decide)).bC (T.ext 10 (by decide)).tC) (by exact rfl) (pv 1)))) pss_nil)
      (pss_cons (ps_if (pt_cmpR op_eq (pv 0) pe_int (nomark _)) (pss_one (ps_raise rfl (takes_of rfl rfl rfl rfl) (SkE.pmk_own1 PySem.F.excBase_ValueError (T.ext 11 (by decide)).xC (T.ext 11 (by decide)).gC (T.ext 11 (by decide)).kC (raises_own (T.ext 11 (by decide)).bC (T.ext 11 (by decide)).tC) (by exact rfl) (pv 1)))) pss_nil)
      (pss_cons (ps_if (pt_cmpR op_eq (pv 0) pe_int (nomark _)) (pss_one (ps_raise rfl (takes_of rfl rfl rfl rfl) (SkE.pmk_own1 PySem.F.excBase_ValueError (T.ext 12 (by decide)).xC (T.ext 12 (by decide)).gC (T.ext 12 (by decide)).kC (raises_own (T.ext 12 (by decide)).bC (T.ext 12 (by decide)).tC) (by exact rfl) (pv 1)))) pss_nil)
      (pss_cons (ps_if (pt_cmpR op_eq (pv 0) pe_int (nomark _)) (pss_one (ps_raise rfl (takes_of rfl rfl rfl rfl) (SkE.pmk_own1 PySem.F.excBase_ValueError (T.ext 13 (by decide)).xC (T.ext 13 (by decide)).gC (T.ext 13 (by decide)).kC (raises_own (T.ext 13 (by decide)).bC (T.ext 13 (by decide)).tC) (by exact rfl) (pv 1)))) pss_nil)
      (pss_cons (ps_if (pt_cmpR op_eq (pv 0) pe_int (nomark _)) (pss_one (ps_raise rfl (takes_of rfl rfl rfl rfl) (SkE.pmk_own1 PySem.F.excBase_ValueError (T.ext 14 (by decide)).xC (T.ext 14 (by decide)).gC (T.ext 14 (by decide)).kC (raises_own (T.ext 14 (by decide)).bC (T.ext 14 (by decide)).tC) (by exact rfl) (pv 1)))) pss_nil)
      (pss_one (ps_raise rfl (takes_of rfl rfl rfl rfl) (SkE.pmk_own1 PySem.F.excBase_ValueError (T.ext 15 (by decide)).xC (T.ext 15 (by decide)).gC (T.ext 15 (by decide)).kC (raises_own (T.ext 15 (by decide)).bC (T.ext 15 (by decide)).tC) (by exact rfl) (pv 1))))))))))))))))))), ?_⟩
    refine ⟨_, rfl, rfl, _, rfl, ite2 (fun e => ⟨_, rfl, key 0 e⟩) (fun n0 => ?_)⟩
    refine ⟨_, rfl, rfl, _, rfl, ite2 (fun e => ⟨_, rfl, key 1 e⟩) (fun n1 => ?_)⟩
    refine ⟨_, rfl, rfl, _, rfl, ite2 (fun e => ⟨_, rfl, key 2 e⟩) (fun n2 => ?_)⟩
    refine ⟨_, rfl, rfl, _, rfl, ite2 (fun e => ⟨_, rfl, key 3 e⟩) (fun n3 => ?_)⟩
    refine ⟨_, rfl, rfl, _, rfl, ite2 (fun e => ⟨_, rfl, key 4 e⟩) (fun n4 => ?_)⟩
    refine ⟨_, rfl, rfl, _, rfl, ite2 (fun e => ⟨_, rfl, key 5 e⟩) (fun n5 => ?_)⟩
    refine ⟨_, rfl, rfl, _, rfl, ite2 (fun e => ⟨_, rfl, key 6 e⟩) (fun n6 => ?_)⟩
    refine ⟨_, rfl, rfl, _, rfl, ite2 (fun e => ⟨_, rfl, key 7 e⟩) (fun n7 => ?_)⟩
    refine ⟨_, rfl, rfl, _, rfl, ite2 (fun e => ⟨_, rfl, key 8 e⟩) (fun n8 => ?_)⟩
    refine ⟨_, rfl, rfl, _, rfl, ite2 (fun e => ⟨_, rfl, key 9 e⟩) (fun n9 => ?_)⟩
    refine ⟨_, rfl, rfl, _, rfl, ite2 (fun e => ⟨_, rfl, key 10 e⟩) (fun n10 => ?_)⟩
    refine ⟨_, rfl, rfl, _, rfl, ite2 (fun e => ⟨_, rfl, key 11 e⟩) (fun n11 => ?_)⟩
    refine ⟨_, rfl, rfl, _, rfl, ite2 (fun e => ⟨_, rfl, key 12 e⟩) (fun n12 => ?_)⟩
    refine ⟨_, rfl, rfl, _, rfl, ite2 (fun e => ⟨_, rfl, key 13 e⟩) (fun n13 => ?_)⟩
    refine ⟨_, rfl, rfl, _, rfl, ite2 (fun e => ⟨_, rfl, key 14 e⟩) (fun n14 => ?_)⟩
    have hall : k = 15 := by
      have z0 := ne_int' n0
      have z1 := ne_int' n1
      have z2 := ne_int' n2
      have z3 := ne_int' n3
      have z4 := ne_int' n4
      have z5 := ne_int' n5
      have z6 := ne_int' n6
      have z7 := ne_int' n7
      have z8 := ne_int' n8
      have z9 := ne_int' n9
      have z10 := ne_int' n10
      have z11 := ne_int' n11
      have z12 := ne_int' n12
      have z13 := ne_int' n13
      have z14 := ne_int' n14
      omega
    subst hall
    exact ⟨_, rfl, q⟩
end
end SS
namespace SS
open PySem PySem.Spec PyProof.Rows L2
section
variable {P : Program} {w : World} {K : PySem.W.Frag} {mg : Str → Option Value} {base : Heap} {Cs : Nat → Addr}
def metB (k : Nat) : List Bool := [decide (k = 0), decide (k = 1), decide (k = 2), decide (k = 3), decide (k = 4), decide (k = 5), decide (k = 6), decide (k = 7), decide (k = 8), decide (k = 9), decide (k = 10), decide (k = 11), decide (k = 12), decide (k = 13), decide (k = 14), false]
def spMet : Sp := fun vs H Q _ => ∃ (k : Nat) (t : Str), k < 16 ∧ vs = [.int (k : Int), .str t] ∧ ∀ H' p, Same H H' → H p = none → H' p = some (.lst ((metB k).map V.bl)) → Q (.ref p) H'
theorem scMet : FnScope ["_law_which", "_law_text", "_law_found", "e"] ["_law_which", "_law_text"] (defScope sMet) := ⟨rfl, rfl, rfl, by decide +kernel, rfl, by decide +kernel, by decide +kernel⟩
theorem same_grow {H H1 : Hp} {p : Addr} {o : HO} (s : Same H H1) (n : H p = none) : Same H (upd H1 p o) := fun b x e => by
  rw [upd_ne (ne_of_none e n)]
  exact s b x e
theorem bm_ext {X : Cx} {K : PySem.W.Frag} (hK : K = X.K) {o e : Expr} {to : TE} {t : TA} {apos cpos : Pos} (ho : PE X o to) (ha : PA X [e] t)
    (h1 : attributeBase o "extend" X.env (eval o X.env) = eval o X.env := by rfl)
    (h2 : ((backTo cpos (starEach [e] X.env)).all (fun x => !x.1) && (backToKw cpos (keywordEach [] X.env)).all (fun x => x.1.isSome) && decide ([e].length + ([] : List Keyword).length + (if ([] : List Keyword).isEmpty then 0 else 1) < 30)) = true := by rfl)
    (h3 : (apos.endLine == cpos.line) = true := by rfl) (h4 : starEach [e] X.env = (false, eval e X.env) :: starEach [] X.env := by rfl) (h5 : (backTo cpos (starEach [] X.env)).any (·.1) = false := by rfl) :
    PE X (.Call (.Attribute o "extend" apos) [e] [] cpos) (tBM K "list" rExtend to t) := by
  subst hK
  exact pe_bm PySem.F.plainAttrs_list PySem.F.slot_list_extend PySem.F.type_list_extend mt_extend ho ha h1 h2 h3 h4 h5
theorem ok_met {f : Addr} {fd : FuncData} (F : Fun K "_law_met" "_law_met" sMet f fd) (T : C16 K mg Cs) (mi : mg "isinstance" = none) (mv : mg "ValueError" = none)
    (ra : Cl P w K mg base (L2.CX P w) 1 "_law_raised" (spRai Cs) []) : FnOk P w K mg base CX0 2 f fd ["_law_which", "_law_text"] spMet := by
  refine F.ok scMet (fun vs H Q E h => ?_) (fun cdv A outer s H vs Q E hr h => ?_)
  · obtain ⟨_, _, _, rfl, _⟩ := h
    rfl
  · obtain ⟨k, t, hk, rfl, q⟩ := h
    refine ⟨_, pss_cons (ps_set (i := 2) scMet.nd rfl (.inl rfl) (pe_lst pa_nil))
      (pss_cons (ps_try_as (i := 3) (Wout := fun _ _ _ _ => False) rfl rfl scMet.nd rfl rfl ⟨rfl, by decide, .inl (T.ext 15 (by decide)).gC⟩ takes0
        (fun W pn xe tk _ => pss_one (ps_expr (pcS ra hr (by decide) (fun σ => passAt tk σ) (pa_cons (pv 0) (pa_cons (pv 1) pa_nil)))))
        (fun a oe cls d pn hz hf => pss_cons (ps_set (i := 2) scMet.nd rfl (.inl rfl) (pe_lst (pa_cons (pe_when (p := cls = .ref (Cs k) ∧ d = none) (fun ⟨e1, e2⟩ => pe_callB (call_isE (D := Cs k) (T.exc k hk) (by rw [← e1, ← e2]; exact hz) hf) (by rfl) mi boot_isinstance (pa_cons (pv 3) (pa_cons (pe_glob (v := .ref (Cs 0)) (by rfl) (T.ext 0 (by decide)).gC rfl) pa_nil)))) (pa_cons (pe_when (p := cls = .ref (Cs k) ∧ d = none) (fun ⟨e1, e2⟩ => pe_callB (call_isE (D := Cs k) (T.exc k hk) (by rw [← e1, ← e2]; exact hz) hf) (by rfl) mi boot_isinstance (pa_cons (pv 3) (pa_cons (pe_glob (v := .ref (Cs 1)) (by rfl) (T.ext 1 (by decide)).gC rfl) pa_nil)))) (pa_cons (pe_when (p := cls = .ref (Cs k) ∧ d = none) (fun ⟨e1, e2⟩ => pe_callB (call_isE (D := Cs k) (T.exc k hk) (by rw [← e1, ← e2]; exact hz) hf) (by rfl) mi boot_isinstance (pa_cons (pv 3) (pa_cons (pe_glob (v := .ref (Cs 2)) (by rfl) (T.ext 2 (by decide)).gC rfl) pa_nil)))) (pa_cons (pe_when (p := cls = .ref (Cs k) ∧ d = none) (fun ⟨e1, e2⟩ => pe_callB (call_isE (D := Cs k) (T.exc k hk) (by rw [← e1, ← e2]; exact hz) hf) (by rfl) mi boot_isinstance (pa_cons (pv 3) (pa_cons (pe_glob (v := .ref (Cs 3)) (by rfl) (T.ext 3 (by decide)).gC rfl) pa_nil)))) pa_nil))))))
          (pss_cons (ps_expr (bm_ext (K := K) rfl (pv 2) (by exact (pa_cons (pe_lst (pa_cons (pe_when (p := cls = .ref (Cs k) ∧ d = none) (fun ⟨e1, e2⟩ => pe_callB (call_isE (D := Cs k) (T.exc k hk) (by rw [← e1, ← e2]; exact hz) hf) (by rfl) mi boot_isinstance (pa_cons (pv 3) (pa_cons (pe_glob (v := .ref (Cs 4)) (by rfl) (T.ext 4 (by decide)).gC rfl) pa_nil)))) (pa_cons (pe_when (p := cls = .ref (Cs k) ∧ d = none) (fun ⟨e1, e2⟩ => pe_callB (call_isE (D := Cs k) (T.exc k hk) (by rw [← e1, ← e2]; exact hz) hf) (by rfl) mi boot_isinstance (pa_cons (pv 3) (pa_cons (pe_glob (v := .ref (Cs 5)) (by rfl) (T.ext 5 (by decide)).gC rfl) pa_nil)))) (pa_cons (pe_when (p := cls = .ref (Cs k) ∧ d = none) (fun ⟨e1, e2⟩ => pe_callB (call_isE (D := Cs k) (T.exc k hk) (by rw [← e1, ← e2]; exact hz) hf) (by rfl) mi boot_isinstance (pa_cons (pv 3) (pa_cons (pe_glob (v := .ref (Cs 6)) (by rfl) (T.ext 6 (by decide)).gC rfl) pa_nil)))) pa_nil)))) pa_nil))))
          (pss_cons (ps_expr (bm_ext (K := K) rfl (pv 2) (by exact (pa_cons (pe_lst (pa_cons (pe_when (p := cls = .ref (Cs k) ∧ d = none) (fun ⟨e1, e2⟩ => pe_callB (call_isE (D := Cs k) (T.exc k hk) (by rw [← e1, ← e2]; exact hz) hf) (by rfl) mi boot_isinstance (pa_cons (pv 3) (pa_cons (pe_glob (v := .ref (Cs 7)) (by rfl) (T.ext 7 (by decide)).gC rfl) pa_nil)))) (pa_cons (pe_when (p := cls = .ref (Cs k) ∧ d = none) (fun ⟨e1, e2⟩ => pe_callB (call_isE (D := Cs k) (T.exc k hk) (by rw [← e1, ← e2]; exact hz) hf) (by rfl) mi boot_isinstance (pa_cons (pv 3) (pa_cons (pe_glob (v := .ref (Cs 8)) (by rfl) (T.ext 8 (by decide)).gC rfl) pa_nil)))) (pa_cons (pe_when (p := cls = .ref (Cs k) ∧ d = none) (fun ⟨e1, e2⟩ => pe_callB (call_isE (D := Cs k) (T.exc k hk) (by rw [← e1, ← e2]; exact hz) hf) (by rfl) mi boot_isinstance (pa_cons (pv 3) (pa_cons (pe_glob (v := .ref (Cs 9)) (by rfl) (T.ext 9 (by decide)).gC rfl) pa_nil)))) pa_nil)))) pa_nil))))
          (pss_cons (ps_expr (bm_ext (K := K) rfl (pv 2) (by exact (pa_cons (pe_lst (pa_cons (pe_when (p := cls = .ref (Cs k) ∧ d = none) (fun ⟨e1, e2⟩ => pe_callB (call_isE (D := Cs k) (T.exc k hk) (by rw [← e1, ← e2]; exact hz) hf) (by rfl) mi boot_isinstance (pa_cons (pv 3) (pa_cons (pe_glob (v := .ref (Cs 10)) (by rfl) (T.ext 10 (by decide)).gC rfl) pa_nil)))) (pa_cons (pe_when (p := cls = .ref (Cs k) ∧ d = none) (fun ⟨e1, e2⟩ => pe_callB (call_isE (D := Cs k) (T.exc k hk) (by rw [← e1, ← e2]; exact hz) hf) (by rfl) mi boot_isinstance (pa_cons (pv 3) (pa_cons (pe_glob (v := .ref (Cs 11)) (by rfl) (T.ext 11 (by decide)).gC rfl) pa_nil)))) (pa_cons (pe_when (p := cls = .ref (Cs k) ∧ d = none) (fun ⟨e1, e2⟩ => pe_callB (call_isE (D := Cs k) (T.exc k hk) (by rw [← e1, ← e2]; exact hz) hf) (by rfl) mi boot_isinstance (pa_cons (pv 3) (pa_cons (pe_glob (v := .ref (Cs 12)) (by rfl) (T.ext 12 (by decide)).gC rfl) pa_nil)))) pa_nil)))) pa_nil))))
          (pss_one (ps_expr (bm_ext (K := K) rfl (pv 2) (by exact (pa_cons (pe_lst (pa_cons (pe_when (p := cls = .ref (Cs k) ∧ d = none) (fun ⟨e1, e2⟩ => pe_callB (call_isE (D := Cs k) (T.exc k hk) (by rw [← e1, ← e2]; exact hz) hf) (by rfl) mi boot_isinstance (pa_cons (pv 3) (pa_cons (pe_glob (v := .ref (Cs 13)) (by rfl) (T.ext 13 (by decide)).gC rfl) pa_nil)))) (pa_cons (pe_when (p := cls = .ref (Cs k) ∧ d = none) (fun ⟨e1, e2⟩ => pe_callB (call_isE (D := Cs k) (T.exc k hk) (by rw [← e1, ← e2]; exact hz) hf) (by rfl) mi boot_isinstance (pa_cons (pv 3) (pa_cons (pe_glob (v := .ref (Cs 14)) (by rfl) (T.ext 14 (by decide)).gC rfl) pa_nil)))) (pa_cons (pe_not (pe_when (p := cls = .ref (Cs k) ∧ d = none) (fun ⟨e1, e2⟩ => pe_callB (call_isE (D := Cs k) (T.exc k hk) (by rw [← e1, ← e2]; exact hz) hf) (by rfl) mi boot_isinstance (pa_cons (pv 3) (pa_cons (pe_bltn (v := .ty "ValueError") (u := .type "ValueError") (by rfl) mv (by decide +kernel) rfl) pa_nil))))) pa_nil)))) pa_nil))))))))))
      (pss_one (ps_ret (pv 2)))), ?_⟩
    refine ⟨Nat.zero_le _, fun l0 nl0 => ?_⟩
    have s0 := same_new (o := .lst []) nl0
    refine ⟨_, rfl, _, rfl, k, t, hk, rfl, ?_⟩
    refine ⟨true, T.exm k hk, fun _ a ha => ?_, fun z => Bool.noConfusion z⟩
    refine ⟨⟨rfl, rfl⟩, _, rfl, _, _, decide (k = 0), rfl, fun u r => r, T.kit k 0 hk (by decide), ⟨rfl, rfl⟩, _, rfl, _, _, decide (k = 1), rfl, fun u r => r, T.kit k 1 hk (by decide), ⟨rfl, rfl⟩, _, rfl, _, _, decide (k = 2), rfl, fun u r => r, T.kit k 2 hk (by decide), ⟨rfl, rfl⟩, _, rfl, _, _, decide (k = 3), rfl, fun u r => r, T.kit k 3 hk (by decide), by show 4 ≤ sizeLine; decide, fun l nl => ?_⟩
    have s1 := s0.trans (same_new (o := .lst [.bl (decide (k = 0)), .bl (decide (k = 1)), .bl (decide (k = 2)), .bl (decide (k = 3))]) nl)
    have nl' := s0.free nl
    refine ⟨.ref l, rfl, .inl ⟨rfl, _, SqL.of upd_same⟩, ?_⟩
    refine ⟨⟨rfl, rfl⟩, _, rfl, _, _, decide (k = 4), rfl, fun u r => r, T.kit k 4 hk (by decide), ⟨rfl, rfl⟩, _, rfl, _, _, decide (k = 5), rfl, fun u r => r, T.kit k 5 hk (by decide), ⟨rfl, rfl⟩, _, rfl, _, _, decide (k = 6), rfl, fun u r => r, T.kit k 6 hk (by decide), by show 3 ≤ sizeLine; decide, fun m0 nm0 => ?_⟩
    have hm0 := (same_new (o := .lst [.bl (decide (k = 4)), .bl (decide (k = 5)), .bl (decide (k = 6))]) nm0) l _ upd_same
    refine ⟨l, m0, [.bl (decide (k = 0)), .bl (decide (k = 1)), .bl (decide (k = 2)), .bl (decide (k = 3))], [.bl (decide (k = 4)), .bl (decide (k = 5)), .bl (decide (k = 6))], rfl, rfl, hm0, upd_same, Nat.le_of_lt (small1000 (by show 4 + 3 ≤ 1000; decide)), ?_⟩
    have s2 := same_grow (o := .lst ([.bl (decide (k = 0)), .bl (decide (k = 1)), .bl (decide (k = 2)), .bl (decide (k = 3))] ++ [.bl (decide (k = 4)), .bl (decide (k = 5)), .bl (decide (k = 6))])) (s1.trans (same_new (o := .lst [.bl (decide (k = 4)), .bl (decide (k = 5)), .bl (decide (k = 6))]) nm0)) nl'
    refine ⟨.ref l, rfl, .inl ⟨rfl, _, SqL.of upd_same⟩, ?_⟩
    refine ⟨⟨rfl, rfl⟩, _, rfl, _, _, decide (k = 7), rfl, fun u r => r, T.kit k 7 hk (by decide), ⟨rfl, rfl⟩, _, rfl, _, _, decide (k = 8), rfl, fun u r => r, T.kit k 8 hk (by decide), ⟨rfl, rfl⟩, _, rfl, _, _, decide (k = 9), rfl, fun u r => r, T.kit k 9 hk (by decide), by show 3 ≤ sizeLine; decide, fun m1 nm1 => ?_⟩
    have hm1 := (same_new (o := .lst [.bl (decide (k = 7)), .bl (decide (k = 8)), .bl (decide (k = 9))]) nm1) l _ upd_same
    refine ⟨l, m1, [.bl (decide (k = 0)), .bl (decide (k = 1)), .bl (decide (k = 2)), .bl (decide (k = 3)), .bl (decide (k = 4)), .bl (decide (k = 5)), .bl (decide (k = 6))], [.bl (decide (k = 7)), .bl (decide (k = 8)), .bl (decide (k = 9))], rfl, rfl, hm1, upd_same, Nat.le_of_lt (small1000 (by show 7 + 3 ≤ 1000; decide)), ?_⟩
    have s3 := same_grow (o := .lst ([.bl (decide (k = 0)), .bl (decide (k = 1)), .bl (decide (k = 2)), .bl (decide (k = 3)), .bl (decide (k = 4)), .bl (decide (k = 5)), .bl (decide (k = 6))] ++ [.bl (decide (k = 7)), .bl (decide (k = 8)), .bl (decide (k = 9))])) (s2.trans (same_new (o := .lst [.bl (decide (k = 7)), .bl (decide (k = 8)), .bl (decide (k = 9))]) nm1)) nl'
    refine ⟨.ref l, rfl, .inl ⟨rfl, _, SqL.of upd_same⟩, ?_⟩
    refine ⟨⟨rfl, rfl⟩, _, rfl, _, _, decide (k = 10), rfl, fun u r => r, T.kit k 10 hk (by decide), ⟨rfl, rfl⟩, _, rfl, _, _, decide (k = 11), rfl, fun u r => r, T.kit k 11 hk (by decide), ⟨rfl, rfl⟩, _, rfl, _, _, decide (k = 12), rfl, fun u r => r, T.kit k 12 hk (by decide), by show 3 ≤ sizeLine; decide, fun m2 nm2 => ?_⟩
    have hm2 := (same_new (o := .lst [.bl (decide (k = 10)), .bl (decide (k = 11)), .bl (decide (k = 12))]) nm2) l _ upd_same
    refine ⟨l, m2, [.bl (decide (k = 0)), .bl (decide (k = 1)), .bl (decide (k = 2)), .bl (decide (k = 3)), .bl (decide (k = 4)), .bl (decide (k = 5)), .bl (decide (k = 6)), .bl (decide (k = 7)), .bl (decide (k = 8)), .bl (decide (k = 9))], [.bl (decide (k = 10)), .bl (decide (k = 11)), .bl (decide (k = 12))], rfl, rfl, hm2, upd_same, Nat.le_of_lt (small1000 (by show 10 + 3 ≤ 1000; decide)), ?_⟩
    have s4 := same_grow (o := .lst ([.bl (decide (k = 0)), .bl (decide (k = 1)), .bl (decide (k = 2)), .bl (decide (k = 3)), .bl (decide (k = 4)), .bl (decide (k = 5)), .bl (decide (k = 6)), .bl (decide (k = 7)), .bl (decide (k = 8)), .bl (decide (k = 9))] ++ [.bl (decide (k = 10)), .bl (decide (k = 11)), .bl (decide (k = 12))])) (s3.trans (same_new (o := .lst [.bl (decide (k = 10)), .bl (decide (k = 11)), .bl (decide (k = 12))]) nm2)) nl'
    refine ⟨.ref l, rfl, .inl ⟨rfl, _, SqL.of upd_same⟩, ?_⟩
    refine ⟨⟨rfl, rfl⟩, _, rfl, _, _, decide (k = 13), rfl, fun u r => r, T.kit k 13 hk (by decide), ⟨rfl, rfl⟩, _, rfl, _, _, decide (k = 14), rfl, fun u r => r, T.kit k 14 hk (by decide), ⟨rfl, rfl⟩, _, rfl, _, _, true, rfl, fun u r => r, T.kve k hk, _, rfl, by show 3 ≤ sizeLine; decide, fun m3 nm3 => ?_⟩
    have hm3 := (same_new (o := .lst [.bl (decide (k = 13)), .bl (decide (k = 14)), .bl (!true)]) nm3) l _ upd_same
    refine ⟨l, m3, [.bl (decide (k = 0)), .bl (decide (k = 1)), .bl (decide (k = 2)), .bl (decide (k = 3)), .bl (decide (k = 4)), .bl (decide (k = 5)), .bl (decide (k = 6)), .bl (decide (k = 7)), .bl (decide (k = 8)), .bl (decide (k = 9)), .bl (decide (k = 10)), .bl (decide (k = 11)), .bl (decide (k = 12))], [.bl (decide (k = 13)), .bl (decide (k = 14)), .bl (!true)], rfl, rfl, hm3, upd_same, Nat.le_of_lt (small1000 (by show 13 + 3 ≤ 1000; decide)), ?_⟩
    have s5 := same_grow (o := .lst ([.bl (decide (k = 0)), .bl (decide (k = 1)), .bl (decide (k = 2)), .bl (decide (k = 3)), .bl (decide (k = 4)), .bl (decide (k = 5)), .bl (decide (k = 6)), .bl (decide (k = 7)), .bl (decide (k = 8)), .bl (decide (k = 9)), .bl (decide (k = 10)), .bl (decide (k = 11)), .bl (decide (k = 12))] ++ [.bl (decide (k = 13)), .bl (decide (k = 14)), .bl (!true)])) (s4.trans (same_new (o := .lst [.bl (decide (k = 13)), .bl (decide (k = 14)), .bl (!true)]) nm3)) nl'
    exact ⟨_, rfl, q _ l s5 nl' upd_same⟩
end
end SS
namespace SS
open PySem PySem.Spec PyProof.Rows L2
theorem sgd_one (t : Int) : sgd t 1 = 1 := by
  unfold sgd
  rw [if_neg (by decide), Int.gcd_one_right]
  rfl
theorem fr1_one (t : Int) : fr1 t 1 = t := by
  have e := fr1_eq (t := t) (b := 1) (by decide)
  rw [sgd_one, Int.mul_one] at e
  exact e
theorem fr2_one (t : Int) : fr2 t 1 = 1 := by
  have e := fr2_eq (t := t) (b := 1) (by decide)
  rw [sgd_one, Int.mul_one] at e
  exact e
def rowP (i j : Nat) : List Bool := (List.range j).map fun m => decide (i = m) && decide (i < 15)
theorem rowP_succ (i j : Nat) : rowP i (j + 1) = rowP i j ++ [decide (i = j) && decide (i < 15)] := by
  unfold rowP
  rw [List.range_succ, List.map_append]
  rfl
theorem rowP_len (i j : Nat) : (rowP i j).length = j := by
  unfold rowP
  rw [List.length_map, List.length_range]
theorem row_met : ∀ i, i < 16 → metB i = rowP i 16 := by decide
theorem row_shaped : ∀ i, i < 16 → SeqAt.shaped (.list ((metB i).map PyData.bool)) = true := by decide
theorem dp_bls {K : PySem.W.Frag} {H : Hp} : ∀ bs : List Bool, DpAll K H (bs.map V.bl) (bs.map PyData.bool)
  | [] => .nil
  | b :: bs => .cons (.bl b) (dp_bls bs)
theorem op_eqDK {X : Cx} {K : PySem.W.Frag} (hK : K = X.K) (hu : X.A.units + 64 < cLine) : OpR X (compareOp .Eq) (rEqD K) := by
  subst hK
  exact op_eqD hu
section
variable {P : Program} {w : World} {K : PySem.W.Frag} {mg : Str → Option Value} {base : Heap} {Cs : Nat → Addr}
def spLaw (K : PySem.W.Frag) : Sp := fun vs H Q _ => ∃ (a : Addr) (ns : List Int), vs = [.ref a] ∧ SqL K H a (ns.map V.int) ∧ ∀ H', Q (.bl true) H'
abbrev NL : List Str := ["_law_script", "_law_state", "_law_k", "_law_top", "_law_bottom", "_law_found", "_law_text", "_law_j"]
theorem scLaw : FnScope NL ["_law_script"] (defScope sLaw) := ⟨rfl, rfl, rfl, by decide +kernel, rfl, by decide +kernel, by decide +kernel⟩
theorem ok_law {f : Addr} {fd : FuncData} (F : Fun K "law" "law" sLaw f fd) (mr : mg "range" = none) (ma : mg "all" = none)
    (fs : Cl P w K mg base CX0 1 "_law_fresh" (spFresh K) []) (wn : Cl P w K mg base CX0 4 "_law_whole_number" spWn []) (rf : Cl P w K mg base CX0 3 "_law_refused" spRef [])
    (fo : Cl P w K mg base (L2.CX P w) 2 "fraction_of" (spFo (Cs 0)) []) (fo1 : Cl P w K mg base (L2.CX P w) 2 "fraction_of" (spFo (Cs 0)) [.int 1]) (isf : Cl P w K mg base CX0 2 "_law_is_fraction" spIsf [])
    (tk : Cl P w K mg base CX0 3 "_law_take" spTake []) (me : Cl P w K mg base CX0 2 "_law_met" spMet []) : FnOk P w K mg base CX0 6 f fd ["_law_script"] (spLaw K) := by
  refine F.ok scLaw (fun vs H Q E h => ?_) (fun cdv A outer s H vs Q E hr h => ?_)
  · obtain ⟨_, _, rfl, _⟩ := h
    rfl
  · obtain ⟨a, ns, rfl, hS, q⟩ := h
    refine ⟨_, pss_cons (ps_set (i := 1) scLaw.nd rfl (.inl rfl) (pc0 fs hr (by decide) (pa_cons (pv 0) pa_nil)))
      (pss_cons (ps_for PassesOwn.never rfl (pi_range1 rfl mr (pa_cons pe_int pa_nil)) (pg_name (i := 2) scLaw.nd rfl (.inl rfl))
        (pss_cons (ps_set (i := 3) scLaw.nd rfl (.inl rfl) (pc0 wn hr (by decide) (pa_cons (pv 1) pa_nil)))
        (pss_cons (ps_set (i := 4) scLaw.nd rfl (.inl rfl) (pc0 wn hr (by decide) (pa_cons (pv 1) pa_nil)))
        (pss_cons (ps_if (pt_cmpR op_eq (pv 4) pe_int (nomark _)) (pss_cons (ps_if (pt_not (pt_val (pc0 rf hr (by decide) (pa_cons (pv 3) (pa_cons (pv 4) pa_nil))))) (pss_one (ps_ret pe_bl)) pss_nil)
          (pss_one (ps_set (i := 4) scLaw.nd rfl (.inl rfl) pe_int))) pss_nil)
        (pss_cons (ps_set (i := 5) scLaw.nd rfl (.inl rfl) (pcX fo hr (by decide) (pa_cons (pv 3) (pa_cons (pv 4) pa_nil))))
        (pss_cons (ps_if (PW.pt (pw_or (pt_not (pt_val (pc0 isf hr (by decide) (pa_cons (pv 5) pa_nil))))
          (pw_or1 (pt_cmpR op_ne (pe_op op_mulW (pe_ix ix_tup (pv 5) pe_int (fun _ _ => rfl)) (pv 4)) (pe_op op_mulW (pv 3) (pe_ix ix_tup (pv 5) pe_int (fun _ _ => rfl))) (nomark _))))) (pss_one (ps_ret pe_bl)) pss_nil)
        (pss_one (ps_if (PW.pt (pw_or (pt_not (pt_val (pc0 isf hr (by decide) (pa_cons (pcX fo1 hr (by decide) (pa_cons (pv 3) pa_nil)) pa_nil))))
          (pw_or (pt_cmpR (op_neD hr.units) (pcX fo1 hr (by decide) (pa_cons (pv 3) pa_nil)) (pe_tup (pa_cons (pv 3) (pa_cons pe_int pa_nil))) (nomark _))
          (pw_or1 (pt_cmpR (op_neD hr.units) (pcX fo hr (by decide) (pa_cons (pv 3) (pa_cons (pv 4) pa_nil))) (pv 5) (nomark _)))))) (pss_one (ps_ret pe_bl)) pss_nil))))))))
      (pss_cons (ps_set (i := 6) scLaw.nd rfl (.inr rfl) (pe_slice sl_str pe_str po_none (po_some (pc0 tk hr (by decide) (pa_cons (pv 1) (pa_cons pe_int pa_nil))))))
      (pss_cons (ps_if (pt_not (pt_val (pe_callB (cr_all rfl) (by rfl) ma boot_all (pa_cons
          (pe_lc (own := [("_law_k", 2)]) (g := gName 2) (tt := tYes) rfl scLaw.nd (pi_range1 rfl mr (pa_cons pe_int pa_nil)) (blkOk_by (by rfl))
            (fun _ _ _ _ _ => pg_name (i := 2) scLaw.nd rfl (Or.inr rfl)) (fun _ _ _ _ _ => pts_nil)
            (fun _ _ _ _ _ => pe_cmpR (op_eqDK (K := K) rfl hr.units) (pc0 me hr (by decide) (pa_cons (pv 2) (pa_cons (pv 6) pa_nil)))
              (pe_lc (own := [("_law_j", 7)]) (g := gName 7) (tt := tYes) rfl scLaw.nd (pi_range1 rfl mr (pa_cons pe_int pa_nil)) (blkOk_by (by rfl))
                (fun _ _ _ _ _ => pg_name (i := 7) scLaw.nd rfl (Or.inl rfl)) (fun _ _ _ _ _ => pts_nil)
                (fun _ _ _ _ _ => pe_and (pe_cmpR op_eq (pv 2) (pv 7) (nomark _)) (pe_one (pe_cmpR op_lt (pv 2) pe_int (nomark _))))) (nomark _))) pa_nil)))) (pss_one (ps_ret pe_bl)) pss_nil)
      (pss_one (ps_ret (pc0 rf hr (by decide) (pa_cons (pc0 wn hr (by decide) (pa_cons (pv 1) pa_nil)) (pa_cons pe_int pa_nil)))))))), ?_⟩
    refine ⟨_, rfl, a, ns, rfl, hS, fun H1 st c s1 ns1 nc1 sa1 => ?_⟩
    have W : ∀ {i j : Int}, i.natAbs < 2 ^ 100 → j.natAbs < 2 ^ 100 → CMulW i j := fun x y => wide_mul x y (by decide) (by decide) (by decide)
    refine ⟨4, rfl, by decide, by decide, for_range (n := 4) (fun i σ H' => ∃ (y2 y3 y4 y5 : Option V), σ = [some (.ref a), some (.ref st), y2, y3, y4, y5, none, none] ∧ StA st c H')
      ⟨none, none, none, none, rfl, sa1⟩ ?_ ?_⟩
    · rintro i σ H0 hi ⟨y2, y3, y4, y5, rfl, s0⟩
      refine ⟨_, rfl, st, c, rfl, s0, fun H2 t b2 s2 bt => ?_⟩
      refine ⟨_, rfl, st, c, rfl, s2, fun H3 b b3 s3 bb => ?_⟩
      refine ⟨_, rfl, rfl, _, rfl, ite2 (fun e => ?_) (fun e => ?_)⟩
      · have b0 : b = 0 := V.int.inj (of_decide_eq_true e)
        subst b0
        refine ⟨_, rfl, _, rfl, t, rfl, fun H3' s3' => ⟨_, rfl, iteF ?_⟩⟩
        have nb : (1 : Int) ≠ 0 := by decide
        replace bb : (1 : Int).natAbs < 2 ^ 100 := by decide
        -- found = fraction_of(top, bottom)
        refine ⟨_, rfl, _, rfl, t, 1, rfl, fun e => absurd e nb, fun _ => ⟨lt8 bb, fun r nr => ?_⟩⟩
        have sr := same_new (o := .tup [.int (fr1 t 1), .int (fr2 t 1)]) nr
        have hr0 : (upd H3' r (.tup [.int (fr1 t 1), .int (fr2 t 1)])) r = some (.tup [.int (fr1 t 1), .int (fr2 t 1)]) := upd_same
        refine ⟨_, rfl, r, _, _, rfl, hr0, fr2_pos nb, fr_gcd nb, fun H4 s4 => ⟨_, rfl, iteF ?_⟩⟩
        have hr4 := s4 _ _ hr0
        have k1 : (fr1 t 1).natAbs < 2 ^ 100 := Nat.lt_of_le_of_lt (fr1_le nb) bt
        have k2 : (fr2 t 1).natAbs < 2 ^ 100 := Nat.lt_of_le_of_lt (fr2_le nb) bb
        refine ⟨_, rfl, r, _, 0, _, rfl, rfl, SqT.of hr4, atI_nat (j := 0) rfl, _, rfl, fr1 t 1, 1, rfl, rfl, W k1 bb, ?_⟩
        refine ⟨_, rfl, _, rfl, r, _, 1, _, rfl, rfl, SqT.of hr4, atI_nat (j := 1) rfl, t, fr2 t 1, rfl, rfl, W bt k2, rfl, _, rfl, iteNS (congrArg V.int (fr_cross nb)) ?_⟩
        -- fraction_of(top), twice; fraction_of(top, bottom)
        have n1 : (1 : Int) ≠ 0 := by decide
        refine ⟨_, rfl, t, 1, rfl, fun e => absurd e n1, fun _ => ⟨lt8 (by decide), fun r2 nr2 => ?_⟩⟩
        have sr2 := same_new (o := .tup [.int (fr1 t 1), .int (fr2 t 1)]) nr2
        refine ⟨r2, _, _, rfl, upd_same, fr2_pos n1, fr_gcd n1, fun H5 s5 => ⟨_, rfl, iteF ?_⟩⟩
        refine ⟨_, rfl, t, 1, rfl, fun e => absurd e n1, fun _ => ⟨lt8 (by decide), fun r3 nr3 => ?_⟩⟩
        have sr3 := same_new (o := .tup [.int (fr1 t 1), .int (fr2 t 1)]) nr3
        refine ⟨_, rfl, small2, fun U nU => ?_⟩
        have sU := same_new (o := .tup [.int t, .int 1]) nU
        have e1 : fr1 t 1 = t := fr1_one t
        have e2 : fr2 t 1 = 1 := fr2_one t
        refine ⟨.tuple [.int (fr1 t 1), .int (fr2 t 1)], .tuple [.int t, .int 1], .tup (SqT.of (sU r3 _ upd_same)) (.cons (.int _) (.cons (.int _) .nil)), .tup (SqT.of upd_same) (.cons (.int _) (.cons (.int _) .nil)), rfl, rfl, false, ?_, iteF ?_⟩
        · rw [e1, e2, SeqAt.eqv_refl _ rfl]
          rfl
        have hr6 := sU _ _ (sr3 _ _ (s5 _ _ (sr2 _ _ hr4)))
        refine ⟨_, rfl, _, rfl, t, 1, rfl, fun e => absurd e nb, fun _ => ⟨lt8 bb, fun r4 nr4 => ?_⟩⟩
        have sr4 := same_new (o := .tup [.int (fr1 t 1), .int (fr2 t 1)]) nr4
        refine ⟨_, rfl, .tuple [.int (fr1 t 1), .int (fr2 t 1)], .tuple [.int (fr1 t 1), .int (fr2 t 1)], .tup (SqT.of upd_same) (.cons (.int _) (.cons (.int _) .nil)), .tup (SqT.of (sr4 _ _ hr6)) (.cons (.int _) (.cons (.int _) .nil)), rfl, rfl, false, ?_, iteF ?_⟩
        · rw [SeqAt.eqv_refl _ rfl]
          rfl
        exact ⟨_, _, _, _, rfl, (s3.same s3').same ((((((sr.trans s4).trans sr2).trans s5).trans sr3).trans sU).trans sr4)⟩
      · have nb : b ≠ 0 := fun z => e (by rw [z]; exact decide_eq_true rfl)
        -- found = fraction_of(top, bottom)
        refine ⟨_, rfl, _, rfl, t, b, rfl, fun e => absurd e nb, fun _ => ⟨lt8 bb, fun r nr => ?_⟩⟩
        have sr := same_new (o := .tup [.int (fr1 t b), .int (fr2 t b)]) nr
        have hr0 : (upd H3 r (.tup [.int (fr1 t b), .int (fr2 t b)])) r = some (.tup [.int (fr1 t b), .int (fr2 t b)]) := upd_same
        refine ⟨_, rfl, r, _, _, rfl, hr0, fr2_pos nb, fr_gcd nb, fun H4 s4 => ⟨_, rfl, iteF ?_⟩⟩
        have hr4 := s4 _ _ hr0
        have k1 : (fr1 t b).natAbs < 2 ^ 100 := Nat.lt_of_le_of_lt (fr1_le nb) bt
        have k2 : (fr2 t b).natAbs < 2 ^ 100 := Nat.lt_of_le_of_lt (fr2_le nb) bb
        refine ⟨_, rfl, r, _, 0, _, rfl, rfl, SqT.of hr4, atI_nat (j := 0) rfl, _, rfl, fr1 t b, b, rfl, rfl, W k1 bb, ?_⟩
        refine ⟨_, rfl, _, rfl, r, _, 1, _, rfl, rfl, SqT.of hr4, atI_nat (j := 1) rfl, t, fr2 t b, rfl, rfl, W bt k2, rfl, _, rfl, iteNS (congrArg V.int (fr_cross nb)) ?_⟩
        -- fraction_of(top), twice; fraction_of(top, bottom)
        have n1 : (1 : Int) ≠ 0 := by decide
        refine ⟨_, rfl, t, 1, rfl, fun e => absurd e n1, fun _ => ⟨lt8 (by decide), fun r2 nr2 => ?_⟩⟩
        have sr2 := same_new (o := .tup [.int (fr1 t 1), .int (fr2 t 1)]) nr2
        refine ⟨r2, _, _, rfl, upd_same, fr2_pos n1, fr_gcd n1, fun H5 s5 => ⟨_, rfl, iteF ?_⟩⟩
        refine ⟨_, rfl, t, 1, rfl, fun e => absurd e n1, fun _ => ⟨lt8 (by decide), fun r3 nr3 => ?_⟩⟩
        have sr3 := same_new (o := .tup [.int (fr1 t 1), .int (fr2 t 1)]) nr3
        refine ⟨_, rfl, small2, fun U nU => ?_⟩
        have sU := same_new (o := .tup [.int t, .int 1]) nU
        have e1 : fr1 t 1 = t := fr1_one t
        have e2 : fr2 t 1 = 1 := fr2_one t
        refine ⟨.tuple [.int (fr1 t 1), .int (fr2 t 1)], .tuple [.int t, .int 1], .tup (SqT.of (sU r3 _ upd_same)) (.cons (.int _) (.cons (.int _) .nil)), .tup (SqT.of upd_same) (.cons (.int _) (.cons (.int _) .nil)), rfl, rfl, false, ?_, iteF ?_⟩
        · rw [e1, e2, SeqAt.eqv_refl _ rfl]
          rfl
        have hr6 := sU _ _ (sr3 _ _ (s5 _ _ (sr2 _ _ hr4)))
        refine ⟨_, rfl, _, rfl, t, b, rfl, fun e => absurd e nb, fun _ => ⟨lt8 bb, fun r4 nr4 => ?_⟩⟩
        have sr4 := same_new (o := .tup [.int (fr1 t b), .int (fr2 t b)]) nr4
        refine ⟨_, rfl, .tuple [.int (fr1 t b), .int (fr2 t b)], .tuple [.int (fr1 t b), .int (fr2 t b)], .tup (SqT.of upd_same) (.cons (.int _) (.cons (.int _) .nil)), .tup (SqT.of (sr4 _ _ hr6)) (.cons (.int _) (.cons (.int _) .nil)), rfl, rfl, false, ?_, iteF ?_⟩
        · rw [SeqAt.eqv_refl _ rfl]
          rfl
        exact ⟨_, _, _, _, rfl, s3.same ((((((sr.trans s4).trans sr2).trans s5).trans sr3).trans sU).trans sr4)⟩
    · rintro σ H0 ⟨y2, y3, y4, y5, rfl, s0⟩
      refine ⟨_, rfl, st, c, 4, rfl, by decide, lt8 (by decide), s0, fun H2 d2 b2 s2 l2 u2 => ⟨d2, rfl, _, rfl, by decide, ?_⟩⟩
      generalize cutS "abc" none (some d2) = txt
      refine ⟨16, rfl, by decide, by decide, fun D nD => lc_range (lo := 0) (n := 16) (fun i H' => H' D = some (.lst ((List.replicate i true).map V.bl)) ∧ ∀ b o, b ≠ D → H2 b = some o → H' b = some o)
        ⟨upd_same, fun b o nb e => by rw [upd_ne nb]; exact e⟩ ?_ ?_⟩
      · rintro i H3 hi ⟨w1, w2⟩
        refine ⟨rfl, _, rfl, _, rfl, i, txt, hi, congrArg (fun z => [V.int z, V.str txt]) (Int.zero_add _), fun H4 p s4 np hp => ?_⟩
        refine ⟨16, rfl, by decide, by decide, fun D2 nD2 => lc_range (lo := 0) (n := 16) (fun j H' => H' D2 = some (.lst ((rowP i j).map V.bl)) ∧ ∀ b o, b ≠ D2 → H4 b = some o → H' b = some o)
          ⟨upd_same, fun b o nb e => by rw [upd_ne nb]; exact e⟩ ?_ ?_⟩
        · rintro j H5 hj ⟨v1, v2⟩
          have step : ∀ bq : Bool, bq = (decide (i = j) && decide (i < 15)) → (upd H5 D2 (.lst ((rowP i j).map V.bl ++ [.bl bq]))) D2 = some (.lst ((rowP i (j + 1)).map V.bl)) ∧ ∀ b o, b ≠ D2 → H4 b = some o → (upd H5 D2 (.lst ((rowP i j).map V.bl ++ [.bl bq]))) b = some o := fun bq e => by
            refine ⟨?_, fun b o nb e => by rw [upd_ne nb]; exact v2 b o nb e⟩
            rw [upd_same, rowP_succ, List.map_append, e]
            rfl
          have sz : ((rowP i j).map V.bl).length < sizeLine := by
            rw [List.length_map, rowP_len]
            exact small1000 (by omega)
          refine ⟨rfl, _, rfl, _, rfl, rfl, _, rfl, ite2 (fun e => ?_) (fun e => ?_)⟩
          · have ij : i = j := by
              have z := V.int.inj (of_decide_eq_true e)
              omega
            refine ⟨_, rfl, _, _, rfl, rfl, _, v1, sz, step _ ?_⟩
            rw [decide_eq_true ij, Bool.true_and]
            exact decide_eq_decide.mpr (by omega)
          · have ij : i ≠ j := fun z => e (decide_eq_true (by rw [z]))
            refine ⟨_, v1, sz, step _ ?_⟩
            rw [decide_eq_false ij, Bool.false_and]
        · rintro H5 ⟨v1, v2⟩
          rw [← row_met i hi] at v1
          have npD : p ≠ D2 := ne_of_none hp nD2
          have hp5 := v2 _ _ npD hp
          refine ⟨.list ((metB i).map PyData.bool), .list ((metB i).map PyData.bool), .lst (SqL.of hp5) (dp_bls _), .lst (SqL.of v1) (dp_bls _), row_shaped i hi, row_shaped i hi, ?_⟩
          have hD4 := s4 _ _ w1
          have nDD : D ≠ D2 := ne_of_none hD4 nD2
          refine ⟨_, v2 _ _ nDD hD4, ?_, ?_, ?_⟩
          · rw [List.length_map, List.length_replicate]
            exact small1000 (by omega)
          · rw [upd_same, SeqAt.eqv_refl _ (SeqAt.canLay_of_shaped (row_shaped i hi)), List.replicate_succ', List.map_append]
            rfl
          · intro b o nb e
            rw [upd_ne nb]
            have e4 := s4 _ _ (w2 b o nb e)
            exact v2 b o (ne_of_none e4 nD2) e4
      · rintro H3 ⟨w1, w2⟩
        refine ⟨D, List.replicate 16 true, rfl, SqL.of w1, _, rfl, iteF ?_⟩
        have sm : Same H2 H3 := fun b o e => w2 b o (ne_of_none e nD) e
        refine ⟨_, rfl, st, c, rfl, s2.same sm, fun H4 z b4 s4 kz => ?_⟩
        exact ⟨z, rfl, fun H5 _ => q H5⟩
end
end SS
namespace SS
open PySem PySem.Spec PyProof.Rows L2
def cl16 (l : List Addr) (n : Nat) : Addr := l.getD n 0
def excOk (K : PySem.W.Frag) (C : Addr) : Bool :=
  PySem.W.excIn K C [.type "ValueError", .type "Exception", .type "BaseException", .type "object"] "ValueError.__new__" && PySem.W.keepIn K (.ref C) && decide (PySem.W.subIn K (.ref C) (.type "BaseException") = some true) && decide (PySem.W.typeIn K (.ref C) = some (.type "type")) &&
  decide (PySem.W.findIn K (.ref C) "__getattribute__" = some (some (.builtin "BaseException.__getattribute__"))) && decide (PySem.W.findIn K (.ref C) "__getattr__" = some none) && PySem.W.hasDictIn K C &&
  decide (PySem.W.findIn K (.ref C) "__class__" = some (some (.builtin "object.__class__"))) && decide (PySem.W.mroIn K C (.type "object") = some true) && decide (PySem.W.kitOne K (.ref C) (.type "ValueError") = some true)
def excAll (K : PySem.W.Frag) (l : List Addr) : Bool := (List.range 16).all fun i => excOk K (cl16 l i) && decide (PySem.W.exmOne K (.ref (cl16 l i)) (.ref (cl16 l 15)) = some true)
def kitAll (K : PySem.W.Frag) (l : List Addr) : Bool := (List.range 16).all fun i => (List.range 15).all fun j => decide (PySem.W.kitOne K (.ref (cl16 l i)) (.ref (cl16 l j)) = some (decide (i = j)))
theorem c16_mk {K : PySem.W.Frag} {mg : Str → Option Value} {l : List Addr} (hE : excAll K l = true) (hK : kitAll K l = true) (hg : ∀ i, i < 16 → mg (nms.getD i "") = some (.ref (cl16 l i)))
    (hn : PySem.W.specialIn K (.builtin "object.__class__") "__get__" = some (some (.builtin "getset_descriptor.__get__"))) (ht : PySem.W.takesIn K (.builtin "object.__class__") = some true) : C16 K mg (cl16 l) := by
  have all : ∀ i, i < 16 → excOk K (cl16 l i) = true ∧ PySem.W.exmOne K (.ref (cl16 l i)) (.ref (cl16 l 15)) = some true := fun i hi => by
    have z := List.all_eq_true.mp hE i (List.mem_range.mpr hi)
    rw [Bool.and_eq_true] at z
    exact ⟨z.1, of_decide_eq_true z.2⟩
  have sp : ∀ i, i < 16 → _ := fun i hi => by
    have z := (all i hi).1
    unfold excOk at z
    simp only [Bool.and_eq_true, decide_eq_true_eq] at z
    exact z
  refine ⟨fun i hi => ?_, fun i hi => ?_, fun i j hi hj => ?_, fun i hi => ?_, fun i hi => (all i hi).2⟩
  · obtain ⟨⟨⟨⟨⟨⟨⟨⟨⟨z1, z2⟩, z3⟩, z4⟩, z5⟩, z6⟩, z7⟩, z8⟩, z9⟩, z10⟩ := sp i hi
    exact ⟨hg i hi, z1, z2, z3, z4⟩
  · obtain ⟨⟨⟨⟨⟨⟨⟨⟨⟨z1, z2⟩, z3⟩, z4⟩, z5⟩, z6⟩, z7⟩, z8⟩, z9⟩, z10⟩ := sp i hi
    exact ⟨z5, z6, z3, z7, z8, hn, ht, z9⟩
  · have z := List.all_eq_true.mp hK i (List.mem_range.mpr hi)
    exact of_decide_eq_true (List.all_eq_true.mp z j (List.mem_range.mpr hj))
  · obtain ⟨⟨⟨⟨⟨⟨⟨⟨⟨z1, z2⟩, z3⟩, z4⟩, z5⟩, z6⟩, z7⟩, z8⟩, z9⟩, z10⟩ := sp i hi
    exact z10
end SS
namespace SS
open PySem PySem.Spec PyProof.Rows L2
/-! ### what the top leaves -/
theorem all_mk {l : PySem.W.OpenLaw} {w : World} {K : PySem.W.Frag} {h : Heap} {mg : Str → Option Value} {fa : Addr} (X : K.In h) (G : h.Ns mainGlobals mg) (hfa : mg "law" = some (.ref fa))
    {f0 : Addr} {od0 an0 : Option Addr} {sl0 : Array (Option Value)} {oc0 kV0 dc0 pm0 cd0 ct0 : Value}
    {f1 : Addr} {od1 an1 : Option Addr} {sl1 : Array (Option Value)} {oc1 kV1 dc1 pm1 cd1 ct1 : Value}
    {T1 : Addr} {odT1 : Option Addr} {slT1 : Array (Option Value)} {ocT1 : Value} {nT1 : Nat} {tT1 : Tok}
    {f2 : Addr} {od2 an2 : Option Addr} {sl2 : Array (Option Value)} {oc2 kV2 dc2 pm2 cd2 ct2 : Value}
    {f3 : Addr} {od3 an3 : Option Addr} {sl3 : Array (Option Value)} {oc3 kV3 dc3 pm3 cd3 ct3 : Value}
    {f4 : Addr} {od4 an4 : Option Addr} {sl4 : Array (Option Value)} {oc4 kV4 dc4 pm4 cd4 ct4 : Value}
    {f5 : Addr} {od5 an5 : Option Addr} {sl5 : Array (Option Value)} {oc5 kV5 dc5 pm5 cd5 ct5 : Value}
    {f6 : Addr} {od6 an6 : Option Addr} {sl6 : Array (Option Value)} {oc6 kV6 dc6 pm6 cd6 ct6 : Value}
    {f7 : Addr} {od7 an7 : Option Addr} {sl7 : Array (Option Value)} {oc7 kV7 dc7 pm7 cd7 ct7 : Value}
    {f8 : Addr} {od8 an8 : Option Addr} {sl8 : Array (Option Value)} {oc8 kV8 dc8 pm8 cd8 ct8 : Value}
    {f9 : Addr} {od9 an9 : Option Addr} {sl9 : Array (Option Value)} {oc9 kV9 dc9 pm9 cd9 ct9 : Value}
    {f10 : Addr} {od10 an10 : Option Addr} {sl10 : Array (Option Value)} {oc10 kV10 dc10 pm10 cd10 ct10 : Value}
    {f11 : Addr} {od11 an11 : Option Addr} {sl11 : Array (Option Value)} {oc11 kV11 dc11 pm11 cd11 ct11 : Value}
    {f12 : Addr} {od12 an12 : Option Addr} {sl12 : Array (Option Value)} {oc12 kV12 dc12 pm12 cd12 ct12 : Value}
    {f13 : Addr} {od13 an13 : Option Addr} {sl13 : Array (Option Value)} {oc13 kV13 dc13 pm13 cd13 ct13 : Value}
    {q0 : Addr}
    {q1 : Addr}
    {q2 : Addr}
    {q3 : Addr}
    {q4 : Addr}
    {q5 : Addr}
    {q6 : Addr}
    {q7 : Addr}
    {q8 : Addr}
    {q9 : Addr}
    {q10 : Addr}
    {q11 : Addr}
    {q12 : Addr}
    {q13 : Addr}
    {q14 : Addr}
    {q15 : Addr}
    (a0 : PySem.W.nsIn K mainGlobals "common_divisor" = some (some (.ref f0)))
    (l0 : K.lookup f0 = some ⟨oc0, od0, .func (PySem.W.fnOf "common_divisor" "common_divisor" (defArgs sCd) (defBody sCd) (defScope sCd) .none kV0 dc0 pm0 an0 cd0 ct0), sl0⟩)
    (c0 : PySem.W.codeIn K cd0 "common_divisor" = true)
    (k0 : PySem.W.keepIn K (.ref f0) = true)
    (a1 : PySem.W.nsIn K mainGlobals "fraction_of" = some (some (.ref f1)))
    (l1 : K.lookup f1 = some ⟨oc1, od1, .func (PySem.W.fnOf "fraction_of" "fraction_of" (defArgs sFo) (defBody sFo) (defScope sFo) (.ref T1) kV1 dc1 pm1 an1 cd1 ct1), sl1⟩)
    (t1 : K.lookup T1 = some ⟨ocT1, odT1, .seq #[.int 1 tT1] nT1, slT1⟩)
    (c1 : PySem.W.codeIn K cd1 "fraction_of" = true)
    (k1 : PySem.W.keepIn K (.ref f1) = true)
    (a2 : PySem.W.nsIn K mainGlobals "_law_fresh" = some (some (.ref f2)))
    (l2 : K.lookup f2 = some ⟨oc2, od2, .func (PySem.W.fnOf "_law_fresh" "_law_fresh" (defArgs sFresh) (defBody sFresh) (defScope sFresh) .none kV2 dc2 pm2 an2 cd2 ct2), sl2⟩)
    (c2 : PySem.W.codeIn K cd2 "_law_fresh" = true)
    (k2 : PySem.W.keepIn K (.ref f2) = true)
    (a3 : PySem.W.nsIn K mainGlobals "_law_mixed" = some (some (.ref f3)))
    (l3 : K.lookup f3 = some ⟨oc3, od3, .func (PySem.W.fnOf "_law_mixed" "_law_mixed" (defArgs sMixed) (defBody sMixed) (defScope sMixed) .none kV3 dc3 pm3 an3 cd3 ct3), sl3⟩)
    (c3 : PySem.W.codeIn K cd3 "_law_mixed" = true)
    (k3 : PySem.W.keepIn K (.ref f3) = true)
    (a4 : PySem.W.nsIn K mainGlobals "_law_fill" = some (some (.ref f4)))
    (l4 : K.lookup f4 = some ⟨oc4, od4, .func (PySem.W.fnOf "_law_fill" "_law_fill" (defArgs sFill) (defBody sFill) (defScope sFill) .none kV4 dc4 pm4 an4 cd4 ct4), sl4⟩)
    (c4 : PySem.W.codeIn K cd4 "_law_fill" = true)
    (k4 : PySem.W.keepIn K (.ref f4) = true)
    (a5 : PySem.W.nsIn K mainGlobals "_law_take" = some (some (.ref f5)))
    (l5 : K.lookup f5 = some ⟨oc5, od5, .func (PySem.W.fnOf "_law_take" "_law_take" (defArgs sTake) (defBody sTake) (defScope sTake) .none kV5 dc5 pm5 an5 cd5 ct5), sl5⟩)
    (c5 : PySem.W.codeIn K cd5 "_law_take" = true)
    (k5 : PySem.W.keepIn K (.ref f5) = true)
    (a6 : PySem.W.nsIn K mainGlobals "_law_whole" = some (some (.ref f6)))
    (l6 : K.lookup f6 = some ⟨oc6, od6, .func (PySem.W.fnOf "_law_whole" "_law_whole" (defArgs sWhole) (defBody sWhole) (defScope sWhole) .none kV6 dc6 pm6 an6 cd6 ct6), sl6⟩)
    (c6 : PySem.W.codeIn K cd6 "_law_whole" = true)
    (k6 : PySem.W.keepIn K (.ref f6) = true)
    (a7 : PySem.W.nsIn K mainGlobals "_law_shared" = some (some (.ref f7)))
    (l7 : K.lookup f7 = some ⟨oc7, od7, .func (PySem.W.fnOf "_law_shared" "_law_shared" (defArgs sSh) (defBody sSh) (defScope sSh) .none kV7 dc7 pm7 an7 cd7 ct7), sl7⟩)
    (c7 : PySem.W.codeIn K cd7 "_law_shared" = true)
    (k7 : PySem.W.keepIn K (.ref f7) = true)
    (a8 : PySem.W.nsIn K mainGlobals "_law_is_fraction" = some (some (.ref f8)))
    (l8 : K.lookup f8 = some ⟨oc8, od8, .func (PySem.W.fnOf "_law_is_fraction" "_law_is_fraction" (defArgs sIsf) (defBody sIsf) (defScope sIsf) .none kV8 dc8 pm8 an8 cd8 ct8), sl8⟩)
    (c8 : PySem.W.codeIn K cd8 "_law_is_fraction" = true)
    (k8 : PySem.W.keepIn K (.ref f8) = true)
    (a9 : PySem.W.nsIn K mainGlobals "_law_whole_number" = some (some (.ref f9)))
    (l9 : K.lookup f9 = some ⟨oc9, od9, .func (PySem.W.fnOf "_law_whole_number" "_law_whole_number" (defArgs sWn) (defBody sWn) (defScope sWn) .none kV9 dc9 pm9 an9 cd9 ct9), sl9⟩)
    (c9 : PySem.W.codeIn K cd9 "_law_whole_number" = true)
    (k9 : PySem.W.keepIn K (.ref f9) = true)
    (a10 : PySem.W.nsIn K mainGlobals "_law_refused" = some (some (.ref f10)))
    (l10 : K.lookup f10 = some ⟨oc10, od10, .func (PySem.W.fnOf "_law_refused" "_law_refused" (defArgs sRef) (defBody sRef) (defScope sRef) .none kV10 dc10 pm10 an10 cd10 ct10), sl10⟩)
    (c10 : PySem.W.codeIn K cd10 "_law_refused" = true)
    (k10 : PySem.W.keepIn K (.ref f10) = true)
    (a11 : PySem.W.nsIn K mainGlobals "_law_raised" = some (some (.ref f11)))
    (l11 : K.lookup f11 = some ⟨oc11, od11, .func (PySem.W.fnOf "_law_raised" "_law_raised" (defArgs sRai) (defBody sRai) (defScope sRai) .none kV11 dc11 pm11 an11 cd11 ct11), sl11⟩)
    (c11 : PySem.W.codeIn K cd11 "_law_raised" = true)
    (k11 : PySem.W.keepIn K (.ref f11) = true)
    (a12 : PySem.W.nsIn K mainGlobals "_law_met" = some (some (.ref f12)))
    (l12 : K.lookup f12 = some ⟨oc12, od12, .func (PySem.W.fnOf "_law_met" "_law_met" (defArgs sMet) (defBody sMet) (defScope sMet) .none kV12 dc12 pm12 an12 cd12 ct12), sl12⟩)
    (c12 : PySem.W.codeIn K cd12 "_law_met" = true)
    (k12 : PySem.W.keepIn K (.ref f12) = true)
    (a13 : PySem.W.nsIn K mainGlobals "law" = some (some (.ref f13)))
    (l13 : K.lookup f13 = some ⟨oc13, od13, .func (PySem.W.fnOf "law" "law" (defArgs sLaw) (defBody sLaw) (defScope sLaw) .none kV13 dc13 pm13 an13 cd13 ct13), sl13⟩)
    (c13 : PySem.W.codeIn K cd13 "law" = true)
    (k13 : PySem.W.keepIn K (.ref f13) = true)
    (z_abs : PySem.W.nsIn K mainGlobals "abs" = some none)
    (z_enumerate : PySem.W.nsIn K mainGlobals "enumerate" = some none)
    (z_len : PySem.W.nsIn K mainGlobals "len" = some none)
    (z_isinstance : PySem.W.nsIn K mainGlobals "isinstance" = some none)
    (z_int : PySem.W.nsIn K mainGlobals "int" = some none)
    (z_bool : PySem.W.nsIn K mainGlobals "bool" = some none)
    (z_tuple : PySem.W.nsIn K mainGlobals "tuple" = some none)
    (z_all : PySem.W.nsIn K mainGlobals "all" = some none)
    (z_range : PySem.W.nsIn K mainGlobals "range" = some none)
    (z_ValueError : PySem.W.nsIn K mainGlobals "ValueError" = some none)
    (g_q0 : PySem.W.nsIn K mainGlobals "NoFraction" = some (some (.ref q0)))
    (g_q1 : PySem.W.nsIn K mainGlobals "NoRow" = some (some (.ref q1)))
    (g_q2 : PySem.W.nsIn K mainGlobals "NoName" = some (some (.ref q2)))
    (g_q3 : PySem.W.nsIn K mainGlobals "Stands" = some (some (.ref q3)))
    (g_q4 : PySem.W.nsIn K mainGlobals "Full" = some (some (.ref q4)))
    (g_q5 : PySem.W.nsIn K mainGlobals "NoLevel" = some (some (.ref q5)))
    (g_q6 : PySem.W.nsIn K mainGlobals "NoMark" = some (some (.ref q6)))
    (g_q7 : PySem.W.nsIn K mainGlobals "NothingDone" = some (some (.ref q7)))
    (g_q8 : PySem.W.nsIn K mainGlobals "NoPoint" = some (some (.ref q8)))
    (g_q9 : PySem.W.nsIn K mainGlobals "NoStep" = some (some (.ref q9)))
    (g_q10 : PySem.W.nsIn K mainGlobals "NoNumber" = some (some (.ref q10)))
    (g_q11 : PySem.W.nsIn K mainGlobals "NoNames" = some (some (.ref q11)))
    (g_q12 : PySem.W.nsIn K mainGlobals "NoText" = some (some (.ref q12)))
    (g_q13 : PySem.W.nsIn K mainGlobals "NoLine" = some (some (.ref q13)))
    (g_q14 : PySem.W.nsIn K mainGlobals "NoWord" = some (some (.ref q14)))
    (g_q15 : PySem.W.nsIn K mainGlobals "StoreError" = some (some (.ref q15)))
    (e_exc : excAll K [q0, q1, q2, q3, q4, q5, q6, q7, q8, q9, q10, q11, q12, q13, q14, q15] = true)
    (e_kit : kitAll K [q0, q1, q2, q3, q4, q5, q6, q7, q8, q9, q10, q11, q12, q13, q14, q15] = true)
    (i_hn : PySem.W.specialIn K (.builtin "object.__class__") "__get__" = some (some (.builtin "getset_descriptor.__get__")))
    (i_ht : PySem.W.takesIn K (.builtin "object.__class__") = some true)
    :
    ∃ fd : FuncData, (∀ (s : Shared) (v : Value), BindsTo s fd ⟨[v], []⟩ [("_law_script", v)]) ∧ ∀ base : Heap, K.In base → base.Ns mainGlobals mg → FnOk l.prog w K mg base CX0 6 fa fd ["_law_script"] (spLaw K) := by
  have e := hfa.symm.trans (PySem.W.mg_of X G a13)
  cases e
  have F0 := fun_mk (st := sCd) l0 c0 k0
  have b0 := F0.binds (ps := ["a", "b"]) fun _ _ _ _ _ _ us hl => match us, hl with | [_, _], _ => rfl
  have m0 := PySem.W.mg_of X G a0
  have F1 : FunD K "fraction_of" "fraction_of" (defArgs sFo) (defBody sFo) (defScope sFo) [.int 1] [] f1 _ := ⟨⟨oc1, od1, .ref T1, kV1, dc1, pm1, an1, cd1, ct1, sl1, rfl, l1, c1, .inr ⟨by decide, T1, _, [.int 1 tT1], nT1, rfl, t1, rfl, .cons ⟨_, rfl⟩ .nil⟩, .inl rfl⟩, k1⟩
  obtain ⟨ds1, vd1, b1⟩ := F1.binds1 (ps := ["top", "bottom"]) 2 1 (by decide) rfl fun T kV doc pm an cdv ct us its hl hi => match us, its, hl, hi with | [_, _], [_], _, _ => ⟨_, rfl, rfl⟩
  obtain ⟨es1, ve1, d1⟩ := F1.binds1 (ps := ["top", "bottom"]) 1 0 (by decide) rfl fun T kV doc pm an cdv ct us its hl hi => match us, its, hl, hi with | [_], [_], _, _ => ⟨_, rfl, rfl⟩
  have m1 := PySem.W.mg_of X G a1
  have F2 := fun_mk (st := sFresh) l2 c2 k2
  have b2 := F2.binds (ps := ["_law_script"]) fun _ _ _ _ _ _ us hl => match us, hl with | [_], _ => rfl
  have m2 := PySem.W.mg_of X G a2
  have F3 := fun_mk (st := sMixed) l3 c3 k3
  have b3 := F3.binds (ps := ["_law_seed"]) fun _ _ _ _ _ _ us hl => match us, hl with | [_], _ => rfl
  have m3 := PySem.W.mg_of X G a3
  have F4 := fun_mk (st := sFill) l4 c4 k4
  have b4 := F4.binds (ps := ["_law_state"]) fun _ _ _ _ _ _ us hl => match us, hl with | [_], _ => rfl
  have m4 := PySem.W.mg_of X G a4
  have F5 := fun_mk (st := sTake) l5 c5 k5
  have b5 := F5.binds (ps := ["_law_state", "_law_many"]) fun _ _ _ _ _ _ us hl => match us, hl with | [_, _], _ => rfl
  have m5 := PySem.W.mg_of X G a5
  have F6 := fun_mk (st := sWhole) l6 c6 k6
  have b6 := F6.binds (ps := ["_law_thing"]) fun _ _ _ _ _ _ us hl => match us, hl with | [_], _ => rfl
  have m6 := PySem.W.mg_of X G a6
  have F7 := fun_mk (st := sSh) l7 c7 k7
  have b7 := F7.binds (ps := ["_law_one", "_law_other"]) fun _ _ _ _ _ _ us hl => match us, hl with | [_, _], _ => rfl
  have m7 := PySem.W.mg_of X G a7
  have F8 := fun_mk (st := sIsf) l8 c8 k8
  have b8 := F8.binds (ps := ["_law_thing"]) fun _ _ _ _ _ _ us hl => match us, hl with | [_], _ => rfl
  have m8 := PySem.W.mg_of X G a8
  have F9 := fun_mk (st := sWn) l9 c9 k9
  have b9 := F9.binds (ps := ["_law_state"]) fun _ _ _ _ _ _ us hl => match us, hl with | [_], _ => rfl
  have m9 := PySem.W.mg_of X G a9
  have F10 := fun_mk (st := sRef) l10 c10 k10
  have b10 := F10.binds (ps := ["_law_top", "_law_bottom"]) fun _ _ _ _ _ _ us hl => match us, hl with | [_, _], _ => rfl
  have m10 := PySem.W.mg_of X G a10
  have F11 := fun_mk (st := sRai) l11 c11 k11
  have b11 := F11.binds (ps := ["_law_which", "_law_text"]) fun _ _ _ _ _ _ us hl => match us, hl with | [_, _], _ => rfl
  have m11 := PySem.W.mg_of X G a11
  have F12 := fun_mk (st := sMet) l12 c12 k12
  have b12 := F12.binds (ps := ["_law_which", "_law_text"]) fun _ _ _ _ _ _ us hl => match us, hl with | [_, _], _ => rfl
  have m12 := PySem.W.mg_of X G a12
  have F13 := fun_mk (st := sLaw) l13 c13 k13
  have n_abs := PySem.W.mg_none_of X G z_abs
  have n_enumerate := PySem.W.mg_none_of X G z_enumerate
  have n_len := PySem.W.mg_none_of X G z_len
  have n_isinstance := PySem.W.mg_none_of X G z_isinstance
  have n_int := PySem.W.mg_none_of X G z_int
  have n_bool := PySem.W.mg_none_of X G z_bool
  have n_tuple := PySem.W.mg_none_of X G z_tuple
  have n_all := PySem.W.mg_none_of X G z_all
  have n_range := PySem.W.mg_none_of X G z_range
  have n_ValueError := PySem.W.mg_none_of X G z_ValueError
  have mg_q0 := PySem.W.mg_of X G g_q0
  have mg_q1 := PySem.W.mg_of X G g_q1
  have mg_q2 := PySem.W.mg_of X G g_q2
  have mg_q3 := PySem.W.mg_of X G g_q3
  have mg_q4 := PySem.W.mg_of X G g_q4
  have mg_q5 := PySem.W.mg_of X G g_q5
  have mg_q6 := PySem.W.mg_of X G g_q6
  have mg_q7 := PySem.W.mg_of X G g_q7
  have mg_q8 := PySem.W.mg_of X G g_q8
  have mg_q9 := PySem.W.mg_of X G g_q9
  have mg_q10 := PySem.W.mg_of X G g_q10
  have mg_q11 := PySem.W.mg_of X G g_q11
  have mg_q12 := PySem.W.mg_of X G g_q12
  have mg_q13 := PySem.W.mg_of X G g_q13
  have mg_q14 := PySem.W.mg_of X G g_q14
  have mg_q15 := PySem.W.mg_of X G g_q15
  refine ⟨PySem.W.fnOf "law" "law" (defArgs sLaw) (defBody sLaw) (defScope sLaw) .none kV13 dc13 pm13 an13 cd13 ct13, fun s v => .of_eq rfl, fun base _ _ => ?_⟩
  have T : C16 K mg (cl16 [q0, q1, q2, q3, q4, q5, q6, q7, q8, q9, q10, q11, q12, q13, q14, q15]) := c16_mk e_exc e_kit (fun i hi => match i, hi with | 0, _ => mg_q0 | 1, _ => mg_q1 | 2, _ => mg_q2 | 3, _ => mg_q3 | 4, _ => mg_q4 | 5, _ => mg_q5 | 6, _ => mg_q6 | 7, _ => mg_q7 | 8, _ => mg_q8 | 9, _ => mg_q9 | 10, _ => mg_q10 | 11, _ => mg_q11 | 12, _ => mg_q12 | 13, _ => mg_q13 | 14, _ => mg_q14 | 15, _ => mg_q15 | n + 16, hh => absurd hh (by omega)) i_hn i_ht
  have cd := Cl.mk0 (P := l.prog) (w := w) (base := base) (ok_cd (k := 0) F0 n_abs) m0 k0 b0
  have fo0 := ok_fo (w := w) (P := l.prog) (base := base) F1 (T.ext 0 (by decide)) cd
  have fo1 : Cl l.prog w K mg base (L2.CX l.prog w) 2 "fraction_of" (spFo (cl16 [q0, q1, q2, q3, q4, q5, q6, q7, q8, q9, q10, q11, q12, q13, q14, q15] 0)) [.int 1] := ⟨⟨_, _, _, _, fo0, m1, k1, d1, ve1⟩⟩
  cases vd1
  have fo := Cl.mk0 (P := l.prog) (w := w) (base := base) fo0 m1 k1 b1
  have fs := Cl.mk0 (P := l.prog) (w := w) (base := base) (ok_fresh (k := 0) F2) m2 k2 b2
  have mx := Cl.mk0 (P := l.prog) (w := w) (base := base) (ok_mixed (k := 0) F3 n_enumerate) m3 k3 b3
  have fl := Cl.mk0 (P := l.prog) (w := w) (base := base) (ok_fill F4 n_len mx) m4 k4 b4
  have tk := Cl.mk0 (P := l.prog) (w := w) (base := base) (ok_take F5 fl) m5 k5 b5
  have wh := Cl.mk0 (P := l.prog) (w := w) (base := base) (ok_whole (k := 0) F6 n_isinstance n_int n_bool) m6 k6 b6
  have sh := Cl.mk0 (P := l.prog) (w := w) (base := base) (ok_sh (k := 0) F7 n_abs) m7 k7 b7
  have isf := Cl.mk0 (P := l.prog) (w := w) (base := base) (ok_isf F8 n_isinstance n_tuple n_len n_all wh sh) m8 k8 b8
  have wn := Cl.mk0 (P := l.prog) (w := w) (base := base) (ok_wn F9 tk) m9 k9 b9
  have rf := Cl.mk0 (P := l.prog) (w := w) (base := base) (ok_ref F10 T n_isinstance n_ValueError fo) m10 k10 b10
  have ra := Cl.mk0 (P := l.prog) (w := w) (base := base) (ok_rai (k := 0) F11 T) m11 k11 b11
  have me := Cl.mk0 (P := l.prog) (w := w) (base := base) (ok_met F12 T n_isinstance n_ValueError ra) m12 k12 b12
  exact ok_law F13 n_range n_all fs wn rf fo fo1 isf tk me
end SS
open PySem PySem.W PyProof.Rows
set_option maxRecDepth 100000 in
set_option maxHeartbeats 0 in
theorem PySem.Challenge.cw_scopestore_k01_fractions_made_holds : PySem.Challenge.rw_scopestore_k01_fractions_made.Holds := by
  w_on; o_law; k_head; (case hw => w_witness2)
  k_fill
  refine L2.walk_of (l := PySem.Challenge.rw_scopestore_k01_fractions_made) (n := 63) (k := 6) (x := "_law_script") (CX := fun _ => L2.CX0) (sp := fun w => SS.spLaw _) rfl (by decide) rfl ⟨rfl, by decide, by decide⟩ (fun w h Y => PySem.W.kIn_of Y) ?F (fun _ _ a ns hl _ hS => ⟨a, ns, rfl, hS, fun _ => rfl⟩) (fun _ _ _ _ _ h => h)
  case F =>
    intro w mg fa h KX G hmg
    refine' SS.all_mk KX G hmg ?a0 ?l0 ?c0 ?k0 ?a1 ?l1 ?t1 ?c1 ?k1 ?a2 ?l2 ?c2 ?k2 ?a3 ?l3 ?c3 ?k3 ?a4 ?l4 ?c4 ?k4 ?a5 ?l5 ?c5 ?k5 ?a6 ?l6 ?c6 ?k6 ?a7 ?l7 ?c7 ?k7 ?a8 ?l8 ?c8 ?k8 ?a9 ?l9 ?c9 ?k9 ?a10 ?l10 ?c10 ?k10 ?a11 ?l11 ?c11 ?k11 ?a12 ?l12 ?c12 ?k12 ?a13 ?l13 ?c13 ?k13 ?z_abs ?z_enumerate ?z_len ?z_isinstance ?z_int ?z_bool ?z_tuple ?z_all ?z_range ?z_ValueError ?g_q0 ?g_q1 ?g_q2 ?g_q3 ?g_q4 ?g_q5 ?g_q6 ?g_q7 ?g_q8 ?g_q9 ?g_q10 ?g_q11 ?g_q12 ?g_q13 ?g_q14 ?g_q15 ?e_exc ?e_kit ?i_hn ?i_ht
    (case a0 => k_is)
    (case l0 => k_is)
    (case c0 => k_is)
    (case k0 => k_is)
    (case a1 => k_is)
    (case l1 => k_is)
    (case t1 => k_is)
    (case c1 => k_is)
    (case k1 => k_is)
    (case a2 => k_is)
    (case l2 => k_is)
    (case c2 => k_is)
    (case k2 => k_is)
    (case a3 => k_is)
    (case l3 => k_is)
    (case c3 => k_is)
    (case k3 => k_is)
    (case a4 => k_is)
    (case l4 => k_is)
    (case c4 => k_is)
    (case k4 => k_is)
    (case a5 => k_is)
    (case l5 => k_is)
    (case c5 => k_is)
    (case k5 => k_is)
    (case a6 => k_is)
    (case l6 => k_is)
    (case c6 => k_is)
    (case k6 => k_is)
    (case a7 => k_is)
    (case l7 => k_is)
    (case c7 => k_is)
    (case k7 => k_is)
    (case a8 => k_is)
    (case l8 => k_is)
    (case c8 => k_is)
    (case k8 => k_is)
    (case a9 => k_is)
    (case l9 => k_is)
    (case c9 => k_is)
    (case k9 => k_is)
    (case a10 => k_is)
    (case l10 => k_is)
    (case c10 => k_is)
    (case k10 => k_is)
    (case a11 => k_is)
    (case l11 => k_is)
    (case c11 => k_is)
    (case k11 => k_is)
    (case a12 => k_is)
    (case l12 => k_is)
    (case c12 => k_is)
    (case k12 => k_is)
    (case a13 => k_is)
    (case l13 => k_is)
    (case c13 => k_is)
    (case k13 => k_is)
    (case z_abs => k_is)
    (case z_enumerate => k_is)
    (case z_len => k_is)
    (case z_isinstance => k_is)
    (case z_int => k_is)
    (case z_bool => k_is)
    (case z_tuple => k_is)
    (case z_all => k_is)
    (case z_range => k_is)
    (case z_ValueError => k_is)
    (case g_q0 => k_is)
    (case g_q1 => k_is)
    (case g_q2 => k_is)
    (case g_q3 => k_is)
    (case g_q4 => k_is)
    (case g_q5 => k_is)
    (case g_q6 => k_is)
    (case g_q7 => k_is)
    (case g_q8 => k_is)
    (case g_q9 => k_is)
    (case g_q10 => k_is)
    (case g_q11 => k_is)
    (case g_q12 => k_is)
    (case g_q13 => k_is)
    (case g_q14 => k_is)
    (case g_q15 => k_is)
    (case e_exc => first | kernel_rfl | rfl)
    (case e_kit => first | kernel_rfl | rfl)
    (case i_hn => k_is)
    (case i_ht => k_is)

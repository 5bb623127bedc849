/- The law SpeedTexts: for any text the call returns true and old memory stays, under the condition that the library tables hold what their initialisers lay. -/
import Derived.Test.YtbaamcjdofccjaaDoorZf
import Derived.Test.YtbaamcjdofccjaaDoorZd
namespace Go.Proofs.YtbaamcjdofccjaaDoor
open Go.RowKit

def txEnd (w : World) (e : Ending) (w' : World) : Prop := e = .returned (.bool true) ∧ Below w.heap.size w w'
def PartsOk (ok : Bool) (A B : ByteArray) (c : UInt8) (w : World) (e : Ending) (w' : World) : Prop := e = .returned (.tuple #[.string A, .string B, .int .u8 c.toNat, .bool ok]) ∧ ∃ n, w' = w.drewN n
theorem bdr (B : Nat) (w : World) (n : Nat) : Below B w (w.drewN n) := ⟨rfl, rfl, rfl, Nat.le_refl _, fun _ _ => rfl⟩
set_option maxRecDepth 100000 in
set_option maxHeartbeats 1000000 in
theorem texts_long (s : ByteArray) (w : World) (hE : Env w) (hs : s.size ≤ maxLen) (h : 100 < s.size) : Calls Tryd.prog 6 #[.string s] w (txEnd w) := by
  unfold maxLen at hs
  have c0 := lives_ok w hE
  have c1 := fun n => lives_ok (w.drewN n) (hE.drewN n)
  have C1 := Lib.hid c1
  clear hE c1
  go_enter Tryd.func6, Tryd.ntmps6
  go_wp2_with fail
  refine c0.mono ?_
  rintro e w' ⟨rfl, n, rfl⟩
  go_wp2_with fail
  refine (C1.out n).mono ?_
  rintro e w' ⟨rfl, m, rfl⟩
  go_wp2
  go_ret
  exact ⟨rfl, bdr _ _ _⟩
set_option maxRecDepth 100000 in
set_option maxHeartbeats 1000000 in
theorem texts_no (s A B : ByteArray) (c : UInt8) (w : World) (hE : Env w) (h : s.size ≤ 100)
    (cp : ∀ n, Calls Tryd.prog 17 #[.string s] (w.drewN n) fun e w' => e = pEnd 0 3 ∧ ∃ m, w' = (w.drewN n).drewN m) (ct : ∀ w, Calls Tryd.prog 18 #[.string s] w (PartsOk false A B c w)) :
    Calls Tryd.prog 6 #[.string s] w (txEnd w) := by
  have c0 := lives_ok w hE
  have o0 : (FloatKind.f64.format.order 0 0 == some .eq) = true := by decide +kernel
  unfold pEnd at cp
  have CP := Lib.hid cp
  have CT := Lib.hid ct
  clear hE cp ct
  go_enter Tryd.func6, Tryd.ntmps6
  go_wp2_with fail
  refine c0.mono ?_
  rintro e w' ⟨rfl, n, rfl⟩
  go_wp2_with fail
  refine (CP.out n).mono ?_
  rintro e w' ⟨rfl, m, rfl⟩
  go_wp2_with fail
  refine (CT.out _).mono ?_
  rintro e w' ⟨rfl, k, rfl⟩
  go_wp2
  go_ret
  exact ⟨rfl, bdr _ _ _⟩
set_option maxRecDepth 100000 in
set_option maxHeartbeats 1000000 in
theorem texts_big (s A B : ByteArray) (c : UInt8) (w : World) (hE : Env w) (h : s.size ≤ 100)
    (cp : ∀ n, Calls Tryd.prog 17 #[.string s] (w.drewN n) (ParOk (w.drewN n))) (ct : ∀ w, Calls Tryd.prog 18 #[.string s] w (PartsOk true A B c w))
    (cs : ∀ w, Calls Tryd.prog 19 #[.string A, .string B] w fun e w' => e = .returned (.tuple #[.float .f64 0, .bool false]) ∧ w = w') :
    Calls Tryd.prog 6 #[.string s] w (txEnd w) := by
  have c0 := lives_ok w hE
  have o0 : (FloatKind.f64.format.order 0 0 == some .eq) = true := by decide +kernel
  have CP := Lib.hid cp
  have CT := Lib.hid ct
  have CS := Lib.hid cs
  clear hE cp ct cs
  go_enter Tryd.func6, Tryd.ntmps6
  go_wp2_with fail
  refine c0.mono ?_
  rintro e w' ⟨rfl, n, rfl⟩
  go_wp2_with fail
  refine (CP.out n).mono ?_
  rintro e w1 ⟨v, he, hb⟩
  have HB := Lib.hid hb
  have cr := fun w => right_any v w
  clear hb
  cases hr : rt v
  · rw [hr, if_neg (by decide)] at he
    unfold pEnd at he
    subst he
    clear cr hr
    go_wp2_with fail
    refine (CT.out _).mono ?_
    rintro e w' ⟨rfl, k, rfl⟩
    go_wp2_with fail
    refine (CS.out _).mono ?_
    rintro e w' ⟨rfl, rfl⟩
    go_wp2
    go_ret
    exact ⟨rfl, (bel_drews HB.out).trans (bdr _ _ _)⟩
  · rw [hr, if_pos rfl] at he
    unfold pEnd at he
    subst he
    rw [hr] at cr
    have CR := Lib.hid cr
    clear cr hr
    go_wp2_with fail
    refine (CT.out _).mono ?_
    rintro e w' ⟨rfl, k, rfl⟩
    go_wp2_with fail
    refine (CS.out _).mono ?_
    rintro e w' ⟨rfl, rfl⟩
    go_wp2_with (go_at_call 10; refine (CR.out _).mono ?_; rintro e w' ⟨rfl, rfl⟩)
    go_ret
    exact ⟨rfl, (bel_drews HB.out).trans (bdr _ _ _)⟩

set_option maxRecDepth 100000 in
set_option maxHeartbeats 1000000 in
theorem texts_few (s A B : ByteArray) (c : UInt8) (r u v : Nat) (w : World) (hE : Env w) (h : s.size ≤ 100) (hv : floatBits .mul .f64 r u = some v) (hv1 : v < infR)
    (cp : ∀ n, Calls Tryd.prog 17 #[.string s] (w.drewN n) fun e w' => e = (if rt v = true then pEnd v 0 else pEnd 0 4) ∧ ∃ m, w' = (w.drewN n).drewN m) (ct : ∀ w, Calls Tryd.prog 18 #[.string s] w (PartsOk true A B c w))
    (cs : ∀ w, Calls Tryd.prog 19 #[.string A, .string B] w fun e w' => e = .returned (.tuple #[.float .f64 r, .bool true]) ∧ w = w')
    (cb : ∀ w, Calls Tryd.prog 20 #[.int .u8 c.toNat] w fun e w' => e = .returned (.float .f64 u) ∧ w = w') :
    Calls Tryd.prog 6 #[.string s] w (txEnd w) := by
  have c0 := lives_ok w hE
  have hop : ∀ t w, (binOp .mul t (.float .f64 r) (.float .f64 u)).run Tryd.prog w = .ok (.float .f64 v) w := fun t w => run_float_arith w .mul t .f64 _ _ v hv
  have CT := Lib.hid ct
  have CS := Lib.hid cs
  have CB := Lib.hid cb
  rcases Nat.eq_zero_or_pos v with rfl | hp
  · have hr : rt 0 = false := by decide +kernel
    have o0 : (FloatKind.f64.format.order 0 0 == some .eq) = true := by decide +kernel
    rw [hr] at cp
    simp only [Bool.false_eq_true, if_false] at cp
    unfold pEnd at cp
    have CP := Lib.hid cp
    clear hE cp ct cs cb hv hr hv1
    go_enter Tryd.func6, Tryd.ntmps6
    go_wp2_with fail
    refine c0.mono ?_
    rintro e w' ⟨rfl, n, rfl⟩
    go_wp2_with fail
    refine (CP.out n).mono ?_
    rintro e w' ⟨rfl, m, rfl⟩
    go_wp2_with fail
    refine (CT.out _).mono ?_
    rintro e w' ⟨rfl, k, rfl⟩
    go_wp2_with fail
    refine (CS.out _).mono ?_
    rintro e w' ⟨rfl, rfl⟩
    go_wp2_with (go_at_call 20; refine (CB.out _).mono ?_; rintro e w' ⟨rfl, rfl⟩)
    go_ret
    exact ⟨rfl, bdr _ _ _⟩
  · have hr : rt v = true := (rt_small hp (Nat.le_of_lt hv1)).2 hv1
    have o1 : (FloatKind.f64.format.order v 0 == some .eq) = false := by rw [ord_gt (Nat.le_of_lt hv1) (Nat.zero_le _) hp]; rfl
    have o2 : (FloatKind.f64.format.order v v == some .eq) = true := by rw [ord_eq (Nat.le_of_lt hv1)]; rfl
    rw [hr] at cp
    simp only [if_true] at cp
    unfold pEnd at cp
    have CP := Lib.hid cp
    clear hE cp ct cs cb hv hr hv1 hp
    go_enter Tryd.func6, Tryd.ntmps6
    go_wp2_with fail
    refine c0.mono ?_
    rintro e w' ⟨rfl, n, rfl⟩
    go_wp2_with fail
    refine (CP.out n).mono ?_
    rintro e w' ⟨rfl, m, rfl⟩
    go_wp2_with fail
    refine (CT.out _).mono ?_
    rintro e w' ⟨rfl, k, rfl⟩
    go_wp2_with fail
    refine (CS.out _).mono ?_
    rintro e w' ⟨rfl, rfl⟩
    go_wp2_with (go_at_call 20; refine (CB.out _).mono ?_; rintro e w' ⟨rfl, rfl⟩)
    go_ret
    exact ⟨rfl, bdr _ _ _⟩
theorem size_list (t : ByteArray) : t.size = t.data.toList.length := by simp
theorem take_ne {s : ByteArray} {q : Nat} (h1 : 0 < q) (h2 : q + 2 < s.size) : s.data.toList.take q ≠ [] := fun e => by
  have hl : s.data.toList.length = s.size := by simp
  have := congrArg List.length e
  rw [List.length_take, hl, List.length_nil] at this
  omega
theorem drop_ne {s : ByteArray} {q : Nat} (h2 : q + 2 < s.size) : (s.data.toList.take (s.size - 1)).drop (q + 1) ≠ [] := fun e => by
  have hl : s.data.toList.length = s.size := by simp
  have := congrArg List.length e
  rw [List.length_drop, List.length_take, hl, List.length_nil] at this
  omega
theorem tab_drew {w : World} (h : tabOk w) (n : Nat) : tabOk (w.drewN n) := h
/-- The law, for any text. -/
theorem texts_any (s : ByteArray) (w : World) (hE : Env w) (hT : tabOk w) (hw : 10 < w.heap.size) (hs : s.size ≤ maxLen) : Calls Tryd.prog 6 #[.string s] w (txEnd w) := by
  rcases Nat.lt_or_ge 100 s.size with h | h
  · exact texts_long s w hE hs h
  · rcases Nat.lt_or_ge s.size 2 with a | a
    · exact texts_no s ⟨#[]⟩ ⟨#[]⟩ 0 w hE h (fun n => (parse_short s _ hs (.inl a)).mono fun e w' ⟨h1, h2⟩ => ⟨h1, 0, h2.symm⟩) (fun w => (parts_short s w hs (.inl a)).mono fun e w' ⟨h1, h2⟩ => ⟨h1, 0, h2.symm⟩)
    · rcases Nat.lt_or_ge 20 s.size with b | b
      · exact texts_no s ⟨#[]⟩ ⟨#[]⟩ 0 w hE h (fun n => (parse_short s _ hs (.inr b)).mono fun e w' ⟨h1, h2⟩ => ⟨h1, 0, h2.symm⟩) (fun w => (parts_short s w hs (.inr b)).mono fun e w' ⟨h1, h2⟩ => ⟨h1, 0, h2.symm⟩)
      · have hfs : (front s).size = s.size - 1 := front_size s
        cases hn : numB (front s)
        · -- no number
          have ct : ∀ w, Calls Tryd.prog 18 #[.string s] w (PartsOk false ⟨#[]⟩ ⟨#[]⟩ 0 w) := fun w => (parts_any s w a b).mono fun e w' hh => by
            rcases hh with ⟨_, h2, h3⟩ | ⟨⟨i1, i2⟩, _, _⟩ | ⟨q, d1, d2, d3, d4, d5, _⟩
            · exact ⟨h2, 0, h3.symm⟩
            · have := (numB_int i1 i2).2
              rw [hn] at this; cases this
            · have := (numB_dot d3 (take_ne d1 d2) (drop_ne d2) d4 d5).2
              rw [hn] at this; cases this
          cases hu : unitB (s[s.size - 1]'(by omega)) with
          | none => exact texts_no s _ _ 0 w hE h (fun n => (parse_unit s _ a b hu).mono fun e w' ⟨h1, h2⟩ => ⟨h1, 0, h2.symm⟩) ct
          | some u => exact texts_no s _ _ 0 w hE h (fun n => parse_bad s u _ a b hu hn) ct
        · -- a number: the figures ahead of the point, and behind it
          have hNL := numB_of hn
          have H := NumS_of hNL (by omega)
          have ct : ∃ A B : ByteArray, (∀ w, Calls Tryd.prog 18 #[.string s] w (PartsOk (unitB (s[s.size - 1]'(by omega))).isSome A B (s[s.size - 1]'(by omega)) w)) ∧ A.size ≤ 100 ∧ B.size ≤ 100 ∧
              (∀ c ∈ (A ++ B).data.toList, dg c = true) ∧ mant (front s).data.toList = mant (A ++ B).data.toList ∧ frac (front s).data.toList = B.size ∧ A.size + B.size ≤ 19 := by
            rcases hNL with ⟨i1, i2⟩ | ⟨l, r, d1, d2, d3, d4, d5⟩
            · have he : (front s ++ (⟨#[]⟩ : ByteArray)).data.toList = (front s).data.toList := by rw [app_list]; simp
              have hf := (numB_int i1 i2).1
              refine ⟨front s, ⟨#[]⟩, fun w => (parts_any s w a b).mono fun e w' hh => ?_, by omega, Nat.zero_le _, by rw [he]; exact i2, by rw [he], frac_int i2, ?_⟩
              · rcases hh with ⟨h1, _, _⟩ | ⟨_, h2, h3⟩ | ⟨q, q1, q2, q3, q4, q5, _⟩
                · rw [hn] at h1; cases h1
                · exact ⟨h2, 0, h3.symm⟩
                · have := (numB_dot q3 (take_ne q1 q2) (drop_ne q2) q4 q5).1
                  omega
              · have : (⟨#[]⟩ : ByteArray).size = 0 := rfl
                omega
            · have hf := (numB_dot d1 d2 d3 d4 d5).1
              have hl : s.data.toList.length = s.size := by simp
              have hlen : (front s).data.toList.length = s.size - 1 := by rw [front_list, List.length_take, hl]; omega
              have hlr : s.size - 1 = l.length + (r.length + 1) := by rw [← hlen, d1]; simp
              have hrp := List.length_pos_iff.2 d3
              have eA : (s.extract 0 l.length).data.toList = l := by
                rw [ext_list, List.drop_zero]
                have : s.data.toList.take l.length = (s.data.toList.take (s.size - 1)).take l.length := by rw [List.take_take, Nat.min_eq_left (by omega)]
                rw [this, ← front_list, d1, List.take_left' rfl]
              have eB : (s.extract (l.length + 1) (s.size - 1)).data.toList = r := by
                rw [ext_list, ← front_list, d1, show l ++ 46 :: r = (l ++ [46]) ++ r by simp, List.drop_left' (by simp)]
              have sA : (s.extract 0 l.length).size = l.length := by rw [size_list, eA]
              have sB : (s.extract (l.length + 1) (s.size - 1)).size = r.length := by rw [size_list, eB]
              refine ⟨s.extract 0 l.length, s.extract (l.length + 1) (s.size - 1), fun w => (parts_any s w a b).mono fun e w' hh => ?_, by omega, by omega, ?_, ?_, ?_, by omega⟩
              · rcases hh with ⟨h1, _, _⟩ | ⟨⟨j1, j2⟩, _, _⟩ | ⟨q, q1, q2, q3, q4, q5, q6, q7⟩
                · rw [hn] at h1; cases h1
                · have := (numB_int j1 j2).1
                  omega
                · have hq := (numB_dot q3 (take_ne q1 q2) (drop_ne q2) q4 q5).1
                  have ht : (s.data.toList.take q).length = q := by rw [List.length_take, hl]; omega
                  obtain rfl : q = l.length := by omega
                  exact ⟨q6, q7⟩
              · rw [app_list, eA, eB]
                intro c hc
                rcases List.mem_append.1 hc with m | m
                · exact d4 c m
                · exact d5 c m
              · rw [app_list, eA, eB, d1, mant_dot]
              · rw [d1, frac_dot d4, sB]
          obtain ⟨A, B, ct, hA, hB, hdg, hmant, hfrac, hAB⟩ := ct
          cases hu : unitB (s[s.size - 1]'(by omega)) with
          | none =>
            rw [hu] at ct
            exact texts_no s A B _ w hE h (fun n => (parse_unit s _ a b hu).mono fun e w' ⟨h1, h2⟩ => ⟨h1, 0, h2.symm⟩) ct
          | some u =>
            rw [hu] at ct
            rcases Nat.lt_or_ge 15 (A.size + B.size) with c | c
            · exact texts_big s A B _ w hE h (fun n => parse_all s u _ (hE.drewN n) (tab_drew hT n) hw a b hu hn H) ct (fun w => small_no A B w hA hB c)
            · have hmlt : mant (front s).data.toList < 1000000000000000 := by
                have := mant_bd (A ++ B).data.toList 0 (fun c hc => .inl (hdg c hc))
                have hl : (A ++ B).data.toList.length ≤ 15 := by simp; omega
                have p : 10 ^ (A ++ B).data.toList.length ≤ 10 ^ 15 := Nat.pow_le_pow_right (by decide) hl
                have e : (10 : Nat) ^ 15 = 1000000000000000 := by decide
                rw [hmant]
                unfold mant
                omega
              have hB2 : 2 * BB = 9007199254740992 := by decide
              obtain ⟨r, r1, r2, r3⟩ := val_ex H (by omega)
              obtain ⟨M, b', m1, m2, m3, m4⟩ := unit_read hu
              obtain ⟨v, v1, _, v3⟩ := mul_unit (Nat.le_of_lt r2) m1 m2 m3 m4
              have hq := val_ref r1 (by omega) (by omega)
              rw [hmant, hfrac] at hq
              exact texts_few s A B _ r u v w hE h v1 (v3 r3 r2) (fun n => parse_few s u r v _ (hE.drewN n) a b hu hn H (by omega) r1 v1) ct (fun w => small_yes A B r w c hdg hq) (fun w => by_some _ u w hu)
end Go.Proofs.YtbaamcjdofccjaaDoor

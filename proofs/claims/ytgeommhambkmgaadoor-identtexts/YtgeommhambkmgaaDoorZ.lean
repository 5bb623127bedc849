/- The document's reading of a text as an identifier: the walk of the reference's Parse. -/
import Derived.Test.YtgeommhambkmgaaDoorY
namespace Go.Proofs.YtgeommhambkmgaaDoor
open Go.RowKit Go.Sort

theorem extract_drop (l : List UInt8) (k : Nat) : (⟨⟨l⟩⟩ : ByteArray).extract k (⟨⟨l⟩⟩ : ByteArray).size = ⟨⟨l.drop k⟩⟩ := by
  have e : (⟨⟨l⟩⟩ : ByteArray).size = l.length := rfl
  rw [e]
  apply ByteArray.ext
  simp
  exact List.take_of_length_le (by simp)
theorem ref_mac (r : List UInt8) : ∃ (g : Nat → Nat) (ok : Bool), refEnd ⟨⟨r⟩⟩ = .returned (.tuple #[macV g, .bool ok]) ∧ (∀ i, g i < 256) ∧ (ok = true → okTxt ⟨⟨r⟩⟩ ∧ g = macOf ⟨⟨r⟩⟩) ∧ (ok = false → ¬ okTxt ⟨⟨r⟩⟩) := by
  by_cases h : okTxt ⟨⟨r⟩⟩
  · exact ⟨_, _, refEnd_good h, macOf_lt _, (fun _ => ⟨h, rfl⟩), fun e => by cases e⟩
  · exact ⟨_, _, refEnd_bad h, (fun _ => by simp [zeroX]), (fun e => by cases e), fun _ => h⟩
theorem hval_take {l : List UInt8} {i v : Nat} (hi : i < l.length) (hv : dval (bt ⟨⟨l⟩⟩ i) = some v) : hval (l.take (i + 1)) 0 = 16 * hval (l.take i) 0 + v := by
  have e : l.take (i + 1) = l.take i ++ [l.getD i 0] := by
    rw [List.take_succ_eq_append_getElem hi]; simp [List.getD, List.getElem?_eq_getElem hi]
  rw [e, hval_snoc, ← bt_get, hv]; rfl
theorem hval_take_lt {l : List UInt8} {i n : Nat} (hi : i ≤ n) (hn : n ≤ 4) : hval (l.take i) 0 < 65536 :=
  hval_small (by rw [List.length_take]; omega)
theorem dig_facts {c v : Nat} (h : dval c = some v) : (decide ((48 : Int) ≤ c) = true ∧ decide ((c : Int) ≤ 57) = true ∧ IntKind.u8.wrap ((c : Int) - 48) = v) ∨
    (decide ((48 : Int) ≤ c) = true ∧ decide ((c : Int) ≤ 57) = false ∧ decide ((97 : Int) ≤ c) = true ∧ decide ((c : Int) ≤ 102) = true ∧ ∃ u : Nat, IntKind.u8.wrap ((c : Int) - 97) = u ∧ u + 10 = v) := by
  unfold dval at h
  split at h
  · refine .inl ⟨by simp; omega, by simp; omega, ?_⟩
    simp only [Option.some.injEq] at h
    simp only [IntKind.wrap, IntKind.bits, IntKind.signed]; simp; omega
  · split at h
    · simp only [Option.some.injEq] at h
      refine .inr ⟨by simp; omega, by simp; omega, by simp; omega, by simp; omega, c - 97, ?_, by omega⟩
      simp only [IntKind.wrap, IntKind.bits, IntKind.signed]; simp; omega
    · cases h
theorem nodig_facts {c : Nat} (h : dval c = none) : (decide ((48 : Int) ≤ c) = false ∧ decide ((97 : Int) ≤ c) = false) ∨ (decide ((48 : Int) ≤ c) = true ∧ decide ((c : Int) ≤ 57) = false ∧ decide ((97 : Int) ≤ c) = false) ∨
    (decide ((48 : Int) ≤ c) = true ∧ decide ((c : Int) ≤ 57) = false ∧ decide ((97 : Int) ≤ c) = true ∧ decide ((c : Int) ≤ 102) = false) := by
  unfold dval at h
  split at h
  · cases h
  · split at h
    · cases h
    · by_cases h1 : c < 48
      · exact .inl ⟨by simp; omega, by simp; omega⟩
      · by_cases h2 : c < 97
        · exact .inr (.inl ⟨by simp; omega, by simp; omega, by simp; omega⟩)
        · exact .inr (.inr ⟨by simp; omega, by simp; omega, by simp; omega, by simp; omega⟩)

theorem inner_next {l : List UInt8} {k m v Z : Nat} (hlt : m < k) (hkl : k < l.length) (hv : dval (bt ⟨⟨l⟩⟩ m) = some v) (hZ : 16 * hval (l.take m) 0 + v = Z) (hf : ∀ j, j < m → (dval (bt ⟨⟨l⟩⟩ j)).isSome = true) :
    (∃ m' : Nat, m' ≤ k ∧ Value.int .i64 ((m : Int) + 1) = .int .i64 m' ∧ Value.int .u64 Z = .int .u64 (hval (l.take m') 0) ∧ ∀ j, j < m' → (dval (bt ⟨⟨l⟩⟩ j)).isSome = true) ∧
      k - (intOf (Value.int .i64 ((m : Int) + 1))).toNat < k - (intOf (Value.int .i64 (m : Int))).toNat := by
  refine ⟨⟨m + 1, hlt, by simp, by rw [hval_take (by omega) hv, hZ], fun j hj => ?_⟩, by simp only [intOf]; omega⟩
  rcases Nat.lt_or_ge j m with h | h
  · exact hf j h
  · obtain rfl : j = m := by omega
    rw [hv]; rfl
theorem u64w {a : Int} {b : Nat} (h : a = b) (hb : b < 18446744073709551616) : IntKind.u64.wrap a = (b : Int) := by rw [IntKind.wrap_u64]; omega
set_option maxRecDepth 10000 in
set_option maxHeartbeats 4000000 in
theorem refParse5_any (l : List UInt8) (w : World) :
    Calls Tryd.prog 18 #[strV l] w fun e w' => refE l e ∧ Below w.heap.size w w' := by
  go_enter Tryd.func18, Tryd.ntmps18
  go_wp2_with fail
  go_loop [4, 5, 6, 7, 8, 9] (fun n _ _ _ _ _ => ∃ k : Nat, 1 ≤ k ∧ k ≤ 5 ∧ n = .int .i64 k ∧ ∀ j, 1 ≤ j → j < k → bt ⟨⟨l⟩⟩ j ≠ 45) (fun n _ _ _ _ _ => 5 - (intOf n).toNat)
  case atStart => exact ⟨1, by omega, by omega, rfl, fun j h1 h2 => by omega⟩
  case round =>
    obtain ⟨k, hk1, hk5, rfl, hno⟩ := hrel
    have HNO := Lib.hid hno
    clear hno
    by_cases hend : k < 5 ∧ k < l.length
    · have hi := str_index ⟨⟨l⟩⟩ k hend.2
      have hw1 : wrap64 ((k : Int) + 1) = (k : Int) + 1 := by unfold wrap64; omega
      by_cases hdash : bt ⟨⟨l⟩⟩ k = 45
      · have hd : dashAt l k := ⟨hk1, hend.2, hdash, HNO.out⟩
        have HD := Lib.hid hd
        have hd2 : ((bt ⟨⟨l⟩⟩ k : Int) != 45) = false := by simp; omega
        have g1 : decide ((k : Int) ≤ 4) = true := by simp; omega
        have hext : (⟨⟨l⟩⟩ : ByteArray).extract (k + 1) l.length = ⟨⟨l.drop (k + 1)⟩⟩ := extract_drop l (k + 1)
        have HBT := Lib.hid (fun j (hj : j < k) => str_index ⟨⟨l⟩⟩ j (Nat.lt_trans hj hend.2))
        obtain ⟨g, ok, hre, hgl, hok, hnok⟩ := ref_mac (l.drop (k + 1))
        have c := refParse_any ⟨⟨l.drop (k + 1)⟩⟩
        rw [hre] at c
        have HOK := Lib.hid hok
        have HNOK := Lib.hid hnok
        clear hok hnok hre hd
        generalize bt ⟨⟨l⟩⟩ k = cc at *
        obtain ⟨D, hDD⟩ : ∃ D, l.drop (k + 1) = D := ⟨_, rfl⟩
        rw [hDD] at HOK HNOK c hext
        have HDD := Lib.hid hDD
        clear hDD
        clear hdash HNO
        go_wp2_with fail
        refine (c _).mono ?_
        rintro e w1 ⟨rfl, hb⟩
        have HB := Lib.hid (below_next hb (box_below w1 (macO g 22)))
        have HA := Lib.hid (box_at w1 g 22)
        clear hb c hext hd2 hi
        go_wp2_with fail
        generalize w1.alloc (macO g 22) = W at *
        go_loop [7, 8, 9] (fun x i _ => ∃ m : Nat, m ≤ k ∧ i = .int .i64 m ∧ x = .int .u64 (hval (l.take m) 0) ∧ ∀ j, j < m → (dval (bt ⟨⟨l⟩⟩ j)).isSome = true) (fun _ i _ => k - (intOf i).toNat)
        case atStart => exact ⟨0, Nat.zero_le _, rfl, rfl, fun j hj => by omega⟩
        case round =>
          obtain ⟨m, hm, rfl, rfl, hf⟩ := hrel
          have HF := Lib.hid hf
          clear hf
          by_cases hlt : m < k
          · have hi := HBT.out m hlt
            have hX := hval_take_lt (l := l) (show m ≤ k by omega) (by omega)
            have hw2 : wrap64 ((m : Int) + 1) = (m : Int) + 1 := by unfold wrap64; omega
            cases hv : dval (bt ⟨⟨l⟩⟩ m) with
            | none =>
              have HX := Lib.hid (bad_fig HD.out hlt hv)
              have hF := nodig_facts hv
              generalize bt ⟨⟨l⟩⟩ m = c at *
              clear hv hX HBT HF HA HOK HNOK hgl hend hk1 hk5 HD hm
              rcases hF with ⟨f1, f2⟩ | ⟨f1, f2, f3⟩ | ⟨f1, f2, f3, f4⟩
              all_goals
                go_wp2_with fail
                go_ret2
                exact ⟨.inr ⟨HX.out, rfl⟩, HB.out⟩
            | some v =>
              have hF := dig_facts hv
              have hv16 := dval_lt hv
              have HQ := Lib.hid (fun (Z : Nat) (hZ : 16 * hval (l.take m) 0 + v = Z) => inner_next hlt hend.2 hv hZ HF.out)
              generalize bt ⟨⟨l⟩⟩ m = c at *
              generalize hval (l.take m) 0 = X at *
              obtain ⟨Z, hZ⟩ : ∃ Z, 16 * X + v = Z := ⟨_, rfl⟩
              obtain ⟨Y, hY⟩ : ∃ Y, 16 * X = Y := ⟨_, rfl⟩
              have w1 : IntKind.u64.wrap (16 * (X : Int)) = Y := u64w (by omega) (by omega)
              have HZ := Lib.hid hZ
              rcases hF with ⟨f1, f2, f3⟩ | ⟨f1, f2, f3, f4, u, f5, f6⟩
              · have w2 : IntKind.u64.wrap (v : Int) = v := u64w rfl (by omega)
                have w3 : IntKind.u64.wrap ((Y : Int) + v) = Z := u64w (by omega) (by omega)
                clear hv hX HBT HA HOK HNOK hgl hend hk1 hk5 HD hm HF hZ hY hv16
                go_wp2_with fail
                rw [hw2]
                exact HQ.out Z HZ.out
              · obtain ⟨V, hV⟩ : ∃ V, Y + u = V := ⟨_, rfl⟩
                have w2 : IntKind.u64.wrap (u : Int) = u := u64w rfl (by omega)
                have w3 : IntKind.u64.wrap ((Y : Int) + u) = V := u64w (by omega) (by omega)
                have w4 : IntKind.u64.wrap ((V : Int) + 10) = Z := u64w (by omega) (by omega)
                clear hv hX HBT HA HOK HNOK hgl hend hk1 hk5 HD hm HF hZ hY hv16 hV f6
                go_wp2_with fail
                rw [hw2]
                exact HQ.out Z HZ.out
          · obtain rfl : m = k := by omega
            cases ok with
            | false =>
              have HX := Lib.hid (bad_mac HD.out (HDD.out ▸ HNOK.out rfl))
              clear HBT HA HOK HNOK hgl hend hk1 hk5 HD hm HF
              go_wp2_with fail
              go_ret2
              exact ⟨.inr ⟨HX.out, rfl⟩, HB.out⟩
            | true =>
              obtain ⟨o1, o2⟩ := HOK.out rfl
              have hX := hval_take_lt (l := l) (Nat.le_refl m) (by omega)
              have hi0 : ∀ w, (Instr.index 9 (strV l) (.int .i64 0)).run Tryd.prog w = .ok (.int .u8 (bt ⟨⟨l⟩⟩ 0)) w := HBT.out 0 (by omega)
              have cN := refNumber_any g hgl
              have hP := pref6_lt hgl
              have HGD := Lib.hid (fun h0 => good_at HD.out (show m ≤ 4 by omega) HF.out (HDD.out ▸ o1) h0)
              have HZD := Lib.hid (fun h1 => bad_zero HD.out h1)
              obtain ⟨N, hN⟩ : ∃ N, idN (hval (l.take m) 0) g = N := ⟨_, rfl⟩
              have hN' := hN
              unfold idN at hN'
              have HE := Lib.hid (show idN (hval (l.take m) 0) (macOf ⟨⟨l.drop (m + 1)⟩⟩) = N by rw [HDD.out, ← o2]; exact hN)
              obtain ⟨X, hTK⟩ : ∃ X, hval (l.take m) 0 = X := ⟨_, rfl⟩
              rw [hTK] at hX hN hN' HE ⊢
              have HTK := Lib.hid hTK
              clear hTK
              generalize pref g 6 = PR at *
              obtain ⟨R, hR⟩ : ∃ R, X * 281474976710656 = R := ⟨_, rfl⟩
              have w1 : IntKind.u64.wrap ((X : Int) * 281474976710656) = R := u64w (by omega) (by omega)
              have w2 : IntKind.u64.wrap ((R : Int) + PR) = N := u64w (by omega) (by omega)
              have ha := HA.out
              have m0 := ha 0 (by omega)
              have m1 := ha 1 (by omega)
              have m2 := ha 2 (by omega)
              have m3 := ha 3 (by omega)
              have m4 := ha 4 (by omega)
              have m5 := ha 5 (by omega)
              by_cases h1 : m = 1
              · have HG := Lib.hid (HGD.out (fun h => absurd h1 (by omega)))
                have g2 : decide ((1 : Int) < m) = false := by simp; omega
                clear HBT HA HOK HNOK hgl hend hk1 hk5 HD hm HF o1 o2 hX hP hN hN' hR ha HGD HZD HDD hi0
                go_wp2_with fail
                refine (cN _).mono ?_
                rintro e w2 ⟨rfl, hb⟩
                have HB2 := Lib.hid (below_next HB.out hb)
                clear hb cN m0 m1 m2 m3 m4 m5
                go_wp2_with fail
                go_ret2
                exact ⟨.inl ⟨_, _, HG.out, by rw [HTK.out, HE.out]; rfl⟩, HB2.out⟩
              · have g2 : (1 : Int) < m := by omega
                by_cases h0 : bt ⟨⟨l⟩⟩ 0 = 48
                · have HX := Lib.hid (HZD.out (by omega) h0)
                  have g3 : ((bt ⟨⟨l⟩⟩ 0 : Int) == 48) = true := by simp; omega
                  generalize bt ⟨⟨l⟩⟩ 0 = c0 at *
                  clear HBT HA HOK HNOK hgl hend hk1 hk5 HD hm HF o1 o2 hX hP hN hN' hR ha HGD HZD HDD h0
                  go_wp2_with fail
                  go_ret2
                  exact ⟨.inr ⟨HX.out, rfl⟩, HB.out⟩
                · have HG := Lib.hid (HGD.out (fun _ => h0))
                  have g3 : ((bt ⟨⟨l⟩⟩ 0 : Int) == 48) = false := by simp; omega
                  generalize bt ⟨⟨l⟩⟩ 0 = c0 at *
                  clear HBT HA HOK HNOK hgl hend hk1 hk5 HD hm HF o1 o2 hX hP hN hN' hR ha HGD HZD HDD h0
                  go_wp2_with fail
                  refine (cN _).mono ?_
                  rintro e w2 ⟨rfl, hb⟩
                  have HB2 := Lib.hid (below_next HB.out hb)
                  clear hb cN m0 m1 m2 m3 m4 m5
                  go_wp2_with fail
                  go_ret2
                  exact ⟨.inl ⟨_, _, HG.out, by rw [HTK.out, HE.out]; rfl⟩, HB2.out⟩
      · have hd2 : ((bt ⟨⟨l⟩⟩ k : Int) != 45) = true := by simp; omega
        have g1 : decide ((k : Int) ≤ 4) = true := by simp; omega
        have hn : ∀ j, 1 ≤ j → j < k + 1 → bt ⟨⟨l⟩⟩ j ≠ 45 := fun j h1 h2 => by
          rcases Nat.lt_or_ge j k with h | h
          · exact HNO.out j h1 h
          · obtain rfl : j = k := by omega
            exact hdash
        have HN := Lib.hid hn
        generalize bt ⟨⟨l⟩⟩ k = c at *
        clear hdash hn HNO
        go_wp2_with fail
        exact ⟨⟨k + 1, by omega, by omega, by simp, HN.out⟩, by simp only [intOf]; omega⟩
    · have hnone : ¬ ∃ a r, idOk l a r := no_dash (k := k) (by omega) HNO.out
      have HX := Lib.hid hnone
      clear hnone HNO
      by_cases h5 : k < 5
      · have g1 : decide ((k : Int) ≤ 4) = true := by simp; omega
        have g2 : decide ((k : Int) < l.length) = false := by simp; omega
        go_wp2_with fail
        go_ret2
        exact ⟨.inr ⟨HX.out, rfl⟩, Below.refl _ _⟩
      · have g1 : decide ((k : Int) ≤ 4) = false := by simp; omega
        go_wp2_with fail
        go_ret2
        exact ⟨.inr ⟨HX.out, rfl⟩, Below.refl _ _⟩
end Go.Proofs.YtgeommhambkmgaaDoor

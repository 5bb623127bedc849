/- Contract of Update. -/
import Derived.Test.YtidgdanhnpfpmaaY
import Derived.Test.YtidgdanhnpfpmaaW
namespace Go.Proofs.Ytidgdanhnpfpmaa
open Go.RowKit Go.Sort

theorem rootI_cases (X : Nat → Pd) (id n : Nat) : rootI X id n = -1 ∨ ∃ j : Nat, j < n ∧ rootI X id n = j := by
  unfold rootI
  simp only []
  split
  · exact .inl rfl
  · rename_i hm
    split
    · refine .inr ⟨_, ?_, rfl⟩
      have hj := bN_lt (R := fun i => (X ((cl X id n).getD i 0)).vr) (C := fun i => sat (X ((cl X id n).getD i 0)).vc (X ((cl X id n).getD i 0)).cost) (G := fun i => (X ((cl X id n).getD i 0)).vb) (P := fun i => (X ((cl X id n).getD i 0)).vp) (Q := fun i => (X ((cl X id n).getD i 0)).id) (k := (cl X id n).length) (by omega)
      generalize bN (fun i => (X ((cl X id n).getD i 0)).vr) (fun i => sat (X ((cl X id n).getD i 0)).vc (X ((cl X id n).getD i 0)).cost) (fun i => (X ((cl X id n).getD i 0)).vb) (fun i => (X ((cl X id n).getD i 0)).vp) (fun i => (X ((cl X id n).getD i 0)).id) (cl X id n).length = j at *
      have : (cl X id n).getD j 0 ∈ cl X id n := by
        rw [List.getD_eq_getElem?_getD, List.getElem?_eq_getElem hj]; simp
      exact (cl_mem _ _).1 this |>.1
    · exact .inl rfl
/-- How far Update has come. -/
structure UP (B : Bd) (s : Value) (X : Nat → Pd) (XS : Nat → Array Value) (r : Int) (bb pb n k sz : Nat) (w : World) : Prop where
  bb : VarAt w bb (B.cells s) 34
  ex : ∃ A, VarAt w pb A 50 ∧ A.size = sz ∧ (∀ i, i < k → Sub A (i * 90) (newP B (X i) ((i : Int) == r) (XS i))) ∧ ∀ i, k ≤ i → i < n → Sub A (i * 90) (XS i)

set_option maxRecDepth 20000 in
set_option maxHeartbeats 2000000 in
theorem update_any (B : Bd) (bb pb n cap : Nat) (A : Array Value) (XS : Nat → Array Value) (X : Nat → Pd) (w : World) (hbb : VarAt w bb (B.cells (.slice (some ⟨pb, 0, none⟩) n cap)) 34) (hpb : VarAt w pb A 50) (hps : Ports A n XS X) (hA : n * 90 ≤ A.size) (hn : n ≤ 20) (hid : B.id < 18446744073709551616) :
    Calls Try.prog 26 #[.pointer (some ⟨bb, 0, none⟩)] w fun e w' => e = .returned (.tuple #[]) ∧ UP (rootB B X (rootI X B.id n)) (.slice (some ⟨pb, 0, none⟩) n cap) X XS (rootI X B.id n) bb pb n n A.size w' ∧ Only2 bb pb w w' := by
  have hne : bb ≠ pb := fun h => by
    subst h
    unfold VarAt at hbb hpb
    rw [hbb] at hpb
    simp at hpb
  have k1 := rootPort_any B bb pb n cap A XS X w hbb hpb hps hn hid
  have hr := rootI_cases X B.id n
  generalize rootI X B.id n = r at *
  have HR := Lib.hid hr
  have LB := Lib.hid hbb.lt
  have LP := Lib.hid hpb.lt
  have VB := Lib.hid hbb
  have VP := Lib.hid hpb
  have HP := Lib.hid hps
  have HA := Lib.hid hA
  have HID := Lib.hid (show (rootB B X r).id < 18446744073709551616 by rw [rootB_id]; exact hid)
  clear hr hbb hpb hps hA hid
  go_enter Try.func26, Try.ntmps26
  go_wp2_with fail
  refine k1.mono ?_
  rintro e w1 ⟨rfl, hb⟩
  have VB1 := Lib.hid (VB.out.below hb LB.out)
  have VP1 := Lib.hid (VP.out.below hb LP.out)
  have HB1 := Lib.hid (only2_below hb bb pb)
  clear hb k1
  go_wp2_with fail
  refine (setRoot_any B bb pb n cap r A XS X w1 VB1.out VP1.out HP.out HR.out).mono ?_
  rintro e w2 ⟨rfl, hv2, hb2⟩
  have VP2 := Lib.hid (hb2.var VP1.out (Ne.symm hne))
  have VB2 := Lib.hid hv2
  have HB2 := Lib.hid (HB1.out.trans (hb2.left pb))
  have c17 : w2.cell? ⟨bb, 17, none⟩ = some (.slice (some ⟨pb, 0, none⟩) n cap) := hv2.cell 17
  clear hb2 hv2 VB1 VP1 HB1 HR
  go_wp2_with fail
  go_loopw [17] (fun i wr => ∃ k : Nat, k ≤ n ∧ i = .int .i64 k ∧ UP (rootB B X r) (.slice (some ⟨pb, 0, none⟩) n cap) X XS r bb pb n k A.size wr ∧ Only2 bb pb w wr) (fun i _ => n - (intOf i).toNat)
  case atStart => exact ⟨0, Nat.zero_le _, rfl, ⟨VB2.out, A, VP2.out, rfl, fun i hi => absurd hi (by omega), fun i _ hi => (HP.out i hi).1⟩, HB2.out⟩
  case round =>
    obtain ⟨k, hk, rfl, ⟨hvb, Ak, hvp, hsz, hdone, htodo⟩, hnx⟩ := hrel
    have HN := Lib.hid hnx
    have HD := Lib.hid hdone
    have HT := Lib.hid htodo
    have VBk := Lib.hid hvb
    have VPk := Lib.hid hvp
    have SZ := Lib.hid hsz
    clear hnx hdone htodo hsz hvp
    by_cases hlt2 : k < n
    · have c17k : wr.cell? ⟨bb, 17, none⟩ = some (.slice (some ⟨pb, 0, none⟩) n cap) := hvb.cell 17
      have hs := HT.out k (Nat.le_refl _) hlt2
      have hx := (HP.out k hlt2).2.1
      have hAk : k * 90 + 90 ≤ Ak.size := by have := HA.out; rw [SZ.out]; omega
      have hq : Ak[k * 90]? = some (.int .u16 (X k).id) := by
        have := hs 0 (by omega)
        rw [Nat.add_zero] at this
        rw [this]; exact hx.id
      have k2 := setDes_any (rootB B X r) _ bb pb (k * 90) (X k).id Ak wr hvb VPk.out hq hAk hne
      have HS := Lib.hid hs
      have HX := Lib.hid hx
      have HAk := Lib.hid hAk
      clear hs hx hAk hq hvb
      go_wp2_with fail
      refine k2.mono ?_
      rintro e w3 ⟨rfl, hvb3, hvp3, hb3⟩
      have hsub := desA_sub (B := rootB B X r) (q := (X k).id) HS.out HX.out.size HAk.out
      have hA3 : k * 90 + 90 ≤ (desA (rootB B X r) (X k).id Ak (k * 90)).size := by rw [desA_size]; exact HAk.out
      have hinfo : w3.cell? ⟨pb, k * 90 + 44, none⟩ = some (.int .i64 (X k).info) := by
        rw [hvp3.cell, hsub 44 (by omega), desA_at HX.out.size 44 (by omega)]; exact HX.out.info
      have k3 := setRole_any (rootB B X r) (X k) ((k : Int) == r) _ bb pb (k * 90) _ w3 hvb3 hvp3 (SP_of hvb3 hvp3 hsub HX.out) hinfo hA3 hne HID.out HX.out.lvb
      have HB3 := Lib.hid (HN.out.trans (hb3.right bb))
      have HSB := Lib.hid hsub
      have HA3 := Lib.hid hA3
      clear k2 hvb3 hvp3 hb3 hsub hA3 hinfo c17k
      go_wp2_with fail
      refine k3.mono ?_
      rintro e w4 ⟨rfl, hvb4, hvp4, hb4⟩
      have hU := Lib.hid (show UP (rootB B X r) (.slice (some ⟨pb, 0, none⟩) n cap) X XS r bb pb n (k + 1) A.size w4 from ⟨hvb4, _, hvp4, by rw [rolA_size, desA_size]; exact SZ.out, fun i hi => by
          by_cases hik : i = k
          · subst hik
            exact rolA_sub HSB.out (by rw [desA_size]; exact HX.out.size) HA3.out
          · exact (((HD.out i (by omega)).out (desA_out _ _ _ _) (by omega)).out (rolA_out _ _ _ _ _) (by omega)),
        fun i hi hin => (((HT.out i (by omega) hin).out (desA_out _ _ _ _) (by omega)).out (rolA_out _ _ _ _ _) (by omega))⟩)
      have HB4 := Lib.hid (HB3.out.trans (hb4.right bb))
      clear k3 hvb4 hvp4 hb4 HB3 HSB HA3 HS HX HAk
      go_wp2_with fail
      exact ⟨⟨k + 1, by omega, by go_num, hU.out, HB4.out⟩, by simp [intOf]; omega⟩
    · obtain rfl : k = n := by omega
      have hU := Lib.hid (show UP (rootB B X r) (.slice (some ⟨pb, 0, none⟩) k cap) X XS r bb pb k k A.size wr from ⟨VBk.out, Ak, VPk.out, SZ.out, HD.out, HT.out⟩)
      go_wp2_with fail
      go_end0
      exact ⟨rfl, hU.out, HN.out⟩
end Go.Proofs.Ytidgdanhnpfpmaa

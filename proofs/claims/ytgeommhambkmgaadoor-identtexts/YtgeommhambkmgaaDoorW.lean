/- The document's identifiers: the contracts of the reference's Hex, Bytes and Text. -/
import Derived.Test.YtgeommhambkmgaaDoorV
namespace Go.Proofs.YtgeommhambkmgaaDoor
open Go.RowKit Go.Sort

set_option maxRecDepth 10000 in
theorem refHex_step (n : Nat) (hn : n < 18446744073709551616) (ih : ¬ n < 16 → ∀ w, Calls Tryd.prog 27 #[.int .u64 ((n / 16 : Nat) : Int)] w fun e w' => e = .returned (strV (hexl (n / 16))) ∧ w = w') (w : World) :
    Calls Tryd.prog 27 #[.int .u64 n] w fun e w' => e = .returned (strV (hexl n)) ∧ w = w' := by
  have hx := digit_ext ⟨n % 16, by omega⟩
  have hy : (⟨#[48, 49, 50, 51, 52, 53, 54, 55, 56, 57, 97, 98, 99, 100, 101, 102]⟩ : ByteArray).extract (n % 16) (n % 16 + 1) = ⟨⟨[dchr (n % 16)]⟩⟩ :=
    ByteArray.ext (Array.toList_inj.1 hx)
  clear hx
  by_cases h : n < 16
  · have H := Lib.hid hy
    have e : n % 16 = n := by omega
    clear hy ih
    go_enter Tryd.func27, Tryd.ntmps27
    go_wp2_with fail
    go_ret
    exact ⟨ret_str (by rw [hexl_small h]; have := H.out; rw [e] at this; simpa only [e] using this), rfl⟩
  · have c := ih h w
    have hl := hexl_len 15 (n / 16) (by omega)
    have e1 : ((n / 16 : Nat) : Int) = (n : Int) / 16 := by omega
    rw [e1] at c
    have HS := Lib.hid (hexl_step h)
    clear ih e1
    generalize hexl (n / 16) = X at *
    go_enter Tryd.func27, Tryd.ntmps27
    go_wp2_with fail
    refine c.mono ?_
    rintro e w1 ⟨rfl, rfl⟩
    clear c
    go_wp2_with fail
    go_ret
    exact ⟨ret_str (by rw [cat_data, HS.out]), rfl⟩
theorem refHex_any (n : Nat) (hn : n < 18446744073709551616) (w : World) :
    Calls Tryd.prog 27 #[.int .u64 n] w fun e w' => e = .returned (strV (hexl n)) ∧ w = w' := by
  induction n using Nat.strongRecOn generalizing w with
  | ind n ih => exact refHex_step n hn (fun h w => ih (n / 16) (by omega) (by omega) w) w
theorem refBytes_any (n : Nat) (_ : n < 18446744073709551616) (w : World) :
    Calls Tryd.prog 14 #[.int .u64 n] w fun e w' => e = .returned (macV (ofN n)) ∧ Below w.heap.size w w' := by
  go_enter Tryd.func14, Tryd.ntmps14
  go_wp2
  refine wp_loop_rounds 7 ?_
  rw [rounds_succ]; go_wp2
  rw [rounds_succ]; go_wp2
  rw [rounds_succ]; go_wp2
  rw [rounds_succ]; go_wp2
  rw [rounds_succ]; go_wp2
  rw [rounds_succ]; go_wp2
  rw [rounds_succ]; go_wp2
  go_returns
  obtain ⟨e5, e4, e3, e2, e1, e0⟩ := ofN_int n
  exact ⟨by rw [e5, e4, e3, e2, e1, e0], (((Below.refl _ _).alloc (Nat.le_refl _) _).alloc (by simp) _)⟩
theorem refText5_any (n : Nat) (hn : n < 18446744073709551616) (w : World) :
    Calls Tryd.prog 13 #[.int .u64 n] w fun e w' => e = .returned (strV (idT n)) ∧ Below w.heap.size w w' := by
  have c1 := refHex_any (n / 281474976710656) (by omega) w
  have c2 := refBytes_any n hn
  have c3 := refText_any (ofN n) (ofN_lt n)
  have hl := hexl_len 15 (n / 281474976710656) (by omega)
  have hl2 := txt_le (ofN n) 6 (by omega)
  have he := idT_cat n
  have e1 : ((n / 281474976710656 : Nat) : Int) = (n : Int) / 281474976710656 := by omega
  rw [e1] at c1
  clear e1
  generalize idT n = T at *
  generalize hexl (n / 281474976710656) = H at *
  generalize txt (ofN n) 6 = X at *
  generalize ofN n = x at *
  go_enter Tryd.func13, Tryd.ntmps13
  go_wp2_with fail
  refine c1.mono ?_
  rintro e w1 ⟨rfl, rfl⟩
  clear c1
  go_wp2_with fail
  refine (c2 _).mono ?_
  rintro e w2 ⟨rfl, hb⟩
  have HB2 := Lib.hid hb
  clear hb c2
  go_wp2_with fail
  refine (c3 _).mono ?_
  rintro e w3 ⟨rfl, hb⟩
  have HB3 := Lib.hid (below_next HB2.out hb)
  clear hb c3 HB2
  have HE := Lib.hid he
  clear he
  go_wp2_with fail
  go_ret
  exact ⟨ret_str HE.out, HB3.out⟩
end Go.Proofs.YtgeommhambkmgaaDoor

/- The bytes of a message, by the reference. -/
import Derived.Test.YtdhmiekheecicaaDoorK
namespace Go.Proofs.YtdhmiekheecicaaDoor
open Go.RowKit Go.Sort

theorem bts_block {w : World} {g : Nat} {l : List UInt8} {t : TypeId} (h : VarAt w g (l.map bV).toArray t) (hl : l.length ≤ 1000) : Bts w w.heap.size (.slice (some ⟨g, 0, none⟩) l.length l.length) l := by
  refine .inr ⟨_, _, rfl, Nat.le_refl _, by unfold maxLen; omega, fun _ => h.lt, fun j hj => ?_⟩
  rw [Addr.add_lit, h.cell]
  simp [hj]
theorem head_list (v k : Nat) (hv : v < 256) (hk : k < 256) : hdB v k = [0, 0, UInt8.ofNat v, UInt8.ofNat k] := by
  simp [hdB, lw, Nat.mod_eq_of_lt hv, Nat.mod_eq_of_lt hk]
theorem head_bts (w : World) (g : Nat) (hg : w.heap.size = g) (v k : UInt8) : Bts (w.alloc (.cells #[.int .u8 0, .int .u8 0, .int .u8 v.toNat, .int .u8 k.toNat] 5)) (g + 1) (.slice (some ⟨g, 0, none⟩) 4 4) [0, 0, v, k] := by
  subst hg
  have := bts_block (l := [0, 0, v, k]) (var_new w #[.int .u8 0, .int .u8 0, .int .u8 v.toNat, .int .u8 k.toNat] 5) (by simp)
  rwa [alloc_size] at this

set_option maxHeartbeats 4000000 in
theorem refBytes_ok (k : Int) (f r c b p a m h d : Nat) (hf : f < 256) (hr : r < 18446744073709551616) (hc : c < 4294967296) (hb : b < 18446744073709551616) (hp : p < 65536) (ha : a < 65536) (hm : m < 65536) (hh : h < 65536) (hd : d < 65536) (hk : k = 2 ∨ k = 1 ∨ k = 3) (w : World) :
    Calls Tryd.prog 11 #[bpV k f r c b p a m h d] w fun e w' => ∃ v', e = .returned v' ∧ Bts w' w'.heap.size v' (bpB k f r c b p a m h d) ∧ Below w.heap.size w w' := by
  obtain ⟨i0, hinf, hz0, hz1, hz2⟩ := info_parts info5
  obtain ⟨k0, k1, k2, k3, k4, k5, k6, k7, k8, k9⟩ := (var_new w (bpC k f r c b p a m h d) 31).bp
  have HB := Lib.hid (box_below w (.cells (bpC k f r c b p a m h d) 31))
  have F0 := Lib.hid (var_new w (bpC k f r c b p a m h d) 31)
  have CB := Lib.hid (fun (l : List UInt8) (v : Value) (B : Nat) (w : World) (hv : Bts w B v l) (hB : B ≤ w.heap.size) (hl : l.length ≤ 1000) => refBody_any l v B k f r c b p a m h d w hv hB hl hf hr hc hb hp ha hm hh hd)
  clear hf hr hc hb hp ha hm hh hd
  have hs1 := alloc_size w (.cells (bpC k f r c b p a m h d) 31)
  generalize hw1 : w.alloc (.cells (bpC k f r c b p a m h d) 31) = w1 at *
  rcases hk with rfl | rfl | rfl
  · go_enter Tryd.func11, Tryd.ntmps11
    go_wp2_with fail
    have Q : Bts (w1.alloc (.cells #[.int .u8 0, .int .u8 0, .int .u8 0, .int .u8 128] 5)) (w.heap.size + 1 + 1) (.slice (some ⟨w.heap.size + 1, 0, none⟩) 4 4) (bpB 2 f r c b p a m h d) := head_bts w1 _ hs1 0 128
    have B1 := below_next HB.out (box_below w1 (.cells #[.int .u8 0, .int .u8 0, .int .u8 0, .int .u8 128] 5))
    go_ret
    exact ⟨_, rfl, Q.mono (by rw [alloc_size]; omega), B1⟩
  · have Q : Bts (w1.alloc (.cells #[.int .u8 0, .int .u8 0, .int .u8 0, .int .u8 0] 5)) (w.heap.size + 1 + 1) (.slice (some ⟨w.heap.size + 1, 0, none⟩) 4 4) (hdB 0 0) := head_bts w1 _ hs1 0 0
    have B1 := below_next HB.out (box_below w1 (.cells #[.int .u8 0, .int .u8 0, .int .u8 0, .int .u8 0] 5))
    have c2 := CB.out _ _ _ _ Q (by rw [alloc_size]; omega) (by rw [hdB_len]; omega)
    obtain ⟨k0, k1, k2, k3, k4, k5, k6, k7, k8, k9⟩ := (F0.out.alloc (.cells #[.int .u8 0, .int .u8 0, .int .u8 0, .int .u8 0] 5)).bp
    have HB1 := Lib.hid B1
    clear Q B1
    go_enter Tryd.func11, Tryd.ntmps11
    go_wp2_with fail
    refine c2.mono ?_
    rintro e w2 ⟨x, rfl, P, -⟩
    have R := Lib.hid (P.back HB1.out)
    clear P c2
    go_wp2_with fail
    go_ret
    exact ⟨x, rfl, R.out.bts, R.out.below⟩
  · have Q : Bts (w1.alloc (.cells #[.int .u8 0, .int .u8 0, .int .u8 2, .int .u8 2] 5)) (w.heap.size + 1 + 1) (.slice (some ⟨w.heap.size + 1, 0, none⟩) 4 4) (hdB 2 2) := head_bts w1 _ hs1 2 2
    have B1 := below_next HB.out (box_below w1 (.cells #[.int .u8 0, .int .u8 0, .int .u8 2, .int .u8 2] 5))
    have c2 := CB.out _ _ _ _ Q (by rw [alloc_size]; omega) (by rw [hdB_len]; omega)
    obtain ⟨k0, k1, k2, k3, k4, k5, k6, k7, k8, k9⟩ := (F0.out.alloc (.cells #[.int .u8 0, .int .u8 0, .int .u8 2, .int .u8 2] 5)).bp
    have HB1 := Lib.hid B1
    clear Q B1
    go_enter Tryd.func11, Tryd.ntmps11
    go_wp2_with fail
    refine c2.mono ?_
    rintro e w2 ⟨x, rfl, P, -⟩
    obtain ⟨base, hbase, own, bel⟩ := P.back HB1.out
    have HO := Lib.hid own
    have HBL := Lib.hid bel
    have hlen := bdB_len (hdB 2 2) f r c b p a m h d
    rw [hdB_len] at hlen
    clear P c2 own bel k0 k1 k2 k3 k4 k5 k6 k7 k8 k9
    have hbase2 : base ≤ w2.heap.size + 1 := by
      rcases HO.out.2 with ⟨-, hn⟩ | ⟨g, _, _, -, h1, h2, -⟩
      · omega
      · have := (Array.getElem?_eq_some_iff.1 h2).1
        omega
    go_wp2_with (at_builtin; refine wpList_append_own _ rfl _ _ 32 rfl base 5 i0 (.int .u8 0) 1 1 und22 hinf hz0 hz1 hz2 rfl (by decide) _ _ _ rfl (HO.out.alloc _) ⟨w2.heap.size, 0, none⟩ 1 1 [_] rfl rfl (cell_one_new _ _ _) ?d2 ?d3 ?d4 ?d5 ?_)
    case d2 => intro u hu; simp at hu; subst hu; rfl
    case d3 => unfold maxLen; omega
    case d4 => omega
    case d5 => simp; omega
    intro v1 w3 hown2 hgrow2 _
    have hb2 : Below w.heap.size w w3 := (HBL.out.alloc (by have := HBL.out.size; omega) _).grown hgrow2 (by simp; have := HBL.out.size; omega) (fun j hj => Nat.le_trans hbase (HO.out.lt j hj).1)
    have R : w3.ownsRow base 5 1 v1 (bpB 3 f r c b p a m h d).length ((bpB 3 f r c b p a m h d).map bV) := own_cast hown2 (by simp [bpB, lw_len, hlen]) (by simp [bpB, lw])
    have HR := Lib.hid R
    have HB3 := Lib.hid hb2
    clear hown2 hgrow2 hb2 R HO HBL
    go_wp2_with fail
    go_ret
    exact ⟨v1, rfl, bts_of_own HR.out, HB3.out⟩
end Go.Proofs.YtdhmiekheecicaaDoor

/- The model's same: a table has what its model has. -/
import Derived.Test.YtkdaloikpljccaaY
import Derived.Test.YtkdaloikpljccaaT
namespace Go.Proofs.Ytkdaloikpljccaa
open Go.RowKit Go.Sort Go.Maps
variable {w w1 : World} {tb b mb B : Nat} {most : Int} {E : Nat → Option Ent} {v : Value} {l : List Ent}
theorem e_neq (a0 a1 a2 a3 a4 a5 p q g : Int) (s : Bool) (w : World) : (binOp .neq 39 (.agg (eCs a0 a1 a2 a3 a4 a5 p q g s)) (.agg (eCs a0 a1 a2 a3 a4 a5 p q g s))).run Try.prog w = .ok (.bool false) w := by
  rw [run_neq_struct, e_self]; rfl
theorem Sl.parts {w : World} {v : Value} {l : List Ent} (h : Sl w v l) : ∃ p cap, v = .slice p l.length cap ∧ (l = [] ∨ ∃ g, p = some ⟨g, 0, none⟩ ∧ Row10 w g l) := by
  rcases h with ⟨rfl, p, cap, rfl⟩ | ⟨g, cap, rfl, hr⟩
  · exact ⟨p, cap, rfl, Or.inl rfl⟩
  · exact ⟨_, cap, rfl, Or.inr ⟨g, rfl, hr⟩⟩

set_option maxHeartbeats 1000000 in
set_option maxRecDepth 20000 in
theorem same_any (h : Duo w tb b mb B most E v l l) (n : Nat) (hn : n < 281474976710656) :
    Calls Try.prog 8 #[.pointer (some ⟨mb, 0, none⟩), .pointer (some ⟨tb, 0, none⟩), macN n] w fun r w' => r = .returned (.bool true) ∧ Below w.heap.size w w' := by
  have hb := box_below w (macO (ofN n) 24)
  have h1 := h.below hb
  have ha := box_at w (ofN n) 24
  have HB := Lib.hid hb
  have H1 := Lib.hid h1
  have HA := Lib.hid ha
  have HN := Lib.hid hn
  have hlt := h.mdl.up.lt
  have HLT : Aside _ := hlt
  have hfew := h.mdl.few
  obtain ⟨⟨p, cap, hve⟩, hrow⟩ := h.mdl.slice
  subst hve
  clear h hb h1 ha hn hlt hrow
  go_enter Try.func8, Try.ntmps8
  go_wp2_with fail
  refine (all_any H1.out.tab).mono ?_
  rintro r w2 ⟨⟨v7, rfl, hsl⟩, hb2⟩
  obtain ⟨p7, cap7, rfl, hp7⟩ := hsl.parts
  have D2 := H1.out.below hb2
  have q0 := D2.mdl.row.cell 0
  simp at q0
  have cl : ∀ d, Calls Try.prog 16 #[.pointer (some ⟨tb, 0, none⟩)] (w2.drewN d) fun e w' => e = .returned (.int .i64 (l.length : Nat)) ∧ w' = w2.drewN d := fun d => (len_any (D2.tab.below (below_dn (Below.refl _ _)))).mono fun _ _ h => ⟨h.1, h.2.symm⟩
  have HD2 := Lib.hid D2
  have HA2 := Lib.hid (HA.out.below hb2 HA.out.lt)
  have HB2 := Lib.hid (below_next HB.out hb2)
  have HP7 := Lib.hid hp7
  clear D2 hb2 hsl hp7
  go_wp2_with fail
  go_quiet (with_reducible exact Calls.quiet_of_same (cl _))
  go_wp2
  go_loopw [41] (fun i wr => ∃ k : Nat, k ≤ l.length ∧ i = .int .i64 k ∧ Below w2.heap.size w2 wr) (fun i _ => l.length - (intOf i).toNat)
  case atStart => exact ⟨0, Nat.zero_le _, rfl, below_dn (Below.refl _ _)⟩
  case round =>
    obtain ⟨k, hk, rfl, hbw⟩ := hrel
    have D := HD2.out.below hbw
    by_cases hlt : k < l.length
    · obtain ⟨e, he⟩ : ∃ e, l[k]? = some e := ⟨_, List.getElem?_eq_getElem hlt⟩
      have hmem := List.mem_of_getElem? he
      rcases D.mdl.slice.2 with hnil | ⟨g, cap', hve, hrow, _⟩
      · rw [hnil] at hlt
        simp at hlt
      simp only [Value.slice.injEq] at hve
      obtain ⟨rfl, _, rfl⟩ := hve
      rcases HP7.out with hnil | ⟨g7, rfl, hr7⟩
      · rw [hnil] at hlt
        simp at hlt
      obtain ⟨k0, k1, k2, k3, k4, k5, k6, k7, k8, k9⟩ := hrow.cells he
      have i0 := idx29 g 0 l.length cap k hlt
      have i7 := idx29 g7 0 l.length cap7 k hlt
      simp only [Nat.zero_add] at i0 i7
      obtain ⟨x0, x1, x2, x3, x4, x5, _⟩ := entCells (var_new wr (entC e) 39)
      have hbw1 := hbw.alloc hbw.size (.cells (entC e) 39)
      have hfind := find_any (HD2.out.below hbw1).tab (HLT.out e hmem)
      rw [fnd_some HD2.out.tab.up hmem] at hfind
      unfold foundV at hfind
      have HE := Lib.hid he
      have HBW1 := Lib.hid hbw1
      have HR7 := Lib.hid hr7
      have HVE := Lib.hid (var_new wr (entC e) 39)
      clear D hbw hrow hmem he hbw1 hr7
      go_wp2_with fail
      refine hfind.mono ?_
      rintro r w4 ⟨rfl, hb4⟩
      have hbw4 := HBW1.out.trans (hb4.mono HBW1.out.size)
      have hb5 := box_below w4 (.cells (entC e) 39)
      have hbw5 := hbw4.trans (hb5.mono hbw4.size)
      have v1 := (HVE.out.below hb4 HVE.out.lt).below hb5 (HVE.out.below hb4 HVE.out.lt).lt
      have v2 := var_new w4 (entC e) 39
      obtain ⟨y0, y1, y2, y3, y4, y5, y6, y7, y8, y9⟩ := entCells v1
      obtain ⟨z0, z1, z2, z3, z4, z5, z6, z7, z8, z9⟩ := entCells v2
      obtain ⟨t0, t1, t2, t3, t4, t5, t6, t7, t8, t9⟩ := (HR7.out.below hbw5).cells HE.out
      have hself := e_self (ofN e.n 0) (ofN e.n 1) (ofN e.n 2) (ofN e.n 3) (ofN e.n 4) (ofN e.n 5) e.port e.ports e.age e.st
      have hneq := e_neq (ofN e.n 0) (ofN e.n 1) (ofN e.n 2) (ofN e.n 3) (ofN e.n 4) (ofN e.n 5) e.port e.ports e.age e.st
      have hg := g39
      have HBW5 := Lib.hid hbw5
      clear hb4 hbw4 hb5 hbw5 v1 v2 hfind k0 k1 k2 k3 k4 k5 k6 k7 k8 k9 x0 x1 x2 x3 x4 x5
      go_wp2_with fail
      go_quiet (fail)
      go_wp2
      go_roundw
      case rel => exact ⟨k + 1, hlt, by go_num, below_dn HBW5.out⟩
      case measure => simp [intOf]; omega
    · have hkl : k = l.length := by omega
      subst hkl
      obtain ⟨a0, a1, a2, a3, a4, a5⟩ := (HA2.out.nexts hbw).n
      have HD := Lib.hid D
      have HAW := Lib.hid (HA2.out.nexts hbw)
      have HBW := Lib.hid hbw
      clear D hbw
      go_wp2_with fail
      refine (at_any HD.out.mdl HN.out).mono ?_
      rintro r w4 ⟨rfl, hb4⟩
      obtain ⟨b0, b1, b2, b3, b4, b5⟩ := (HAW.out.nexts hb4).n
      have HD4 := Lib.hid (HD.out.below hb4)
      have HBW4 := Lib.hid (HBW.out.trans (hb4.mono HBW.out.size))
      clear hb4 a0 a1 a2 a3 a4 a5
      go_wp2_with fail
      have hfind := find_any HD4.out.tab HN.out
      cases hh : has l n
      · have hfn : fnd l n = none := by
          unfold has at hh
          cases hf : fnd l n with
          | none => rfl
          | some e => rw [hf] at hh; cases hh
        rw [hfn] at hfind
        unfold foundV at hfind
        refine hfind.mono ?_
        rintro r w5 ⟨rfl, hb5⟩
        have hbw5 := HBW4.out.trans (hb5.mono HBW4.out.size)
        have hbw6 := hbw5.alloc hbw5.size (.cells noC 39)
        have v2 := var_new w5 noC 39
        have z0 := v2.cell 0; have z1 := v2.cell 1; have z2 := v2.cell 2; have z3 := v2.cell 3; have z4 := v2.cell 4
        have z5 := v2.cell 5; have z6 := v2.cell 6; have z7 := v2.cell 7; have z8 := v2.cell 8; have z9 := v2.cell 9
        simp at z0 z1 z2 z3 z4 z5 z6 z7 z8 z9
        have hself := e_self 0 0 0 0 0 0 0 0 0 false
        have hg := g39
        have HBW6 := Lib.hid hbw6
        clear hb5 hbw5 hbw6 v2 hfind b0 b1 b2 b3 b4 b5
        go_wp2_with fail
        go_quiet (fail)
        go_wp2
        go_ret
        exact ⟨rfl, HB2.out.trans ((below_dn HBW6.out).mono HB2.out.size)⟩
      · obtain ⟨y, hy, hyn, hfy⟩ := pos_has HD4.out.mdl.up hh
        have hi : pos l n < l.length := (List.getElem?_eq_some_iff.1 hy).1
        rcases HD4.out.mdl.slice.2 with hnil | ⟨g, cap', hve, hrow, _⟩
        · rw [hnil] at hi
          simp at hi
        simp only [Value.slice.injEq] at hve
        obtain ⟨rfl, _, rfl⟩ := hve
        have i0 := idx29 g 0 l.length cap (pos l n) hi
        simp only [Nat.zero_add] at i0
        rw [hfy] at hfind
        unfold foundV at hfind
        refine hfind.mono ?_
        rintro r w5 ⟨rfl, hb5⟩
        have hbw5 := HBW4.out.trans (hb5.mono HBW4.out.size)
        have hb6 := box_below w5 (.cells (entC y) 39)
        have hbw6 := hbw5.alloc hbw5.size (.cells (entC y) 39)
        obtain ⟨z0, z1, z2, z3, z4, z5, z6, z7, z8, z9⟩ := entCells (var_new w5 (entC y) 39)
        obtain ⟨t0, t1, t2, t3, t4, t5, t6, t7, t8, t9⟩ := ((hrow.below hb5).below hb6).cells hy
        have q1 := ((HD4.out.below hb5).below hb6).mdl.row.cell 0
        simp at q1
        have hself := e_self (ofN y.n 0) (ofN y.n 1) (ofN y.n 2) (ofN y.n 3) (ofN y.n 4) (ofN y.n 5) y.port y.ports y.age y.st
        have hg := g39
        have HBW6 := Lib.hid hbw6
        clear hb5 hbw5 hb6 hbw6 hfind hrow hy hyn b0 b1 b2 b3 b4 b5
        go_wp2_with fail
        go_quiet (fail)
        go_wp2
        go_ret
        exact ⟨rfl, HB2.out.trans ((below_dn HBW6.out).mono HB2.out.size)⟩
end Go.Proofs.Ytkdaloikpljccaa

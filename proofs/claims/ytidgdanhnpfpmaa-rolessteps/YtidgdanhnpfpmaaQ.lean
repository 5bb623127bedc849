/- Contract of setRole. -/
import Derived.Test.YtidgdanhnpfpmaaP
namespace Go.Proofs.Ytidgdanhnpfpmaa
open Go.RowKit Go.Sort

/-- Isn't what a port knows what it would tell? -/
def differs (B : Bd) (x : Pd) : Bool := !eqV x.vr x.vc x.vb x.vp B.r B.c B.id x.id || !eqT x.a x.m x.h x.d B.ra B.rm B.h B.rd
/-- The role of a port whose vector came. -/
def roleOf (B : Bd) (x : Pd) (q : Bool) : Int := roleN q (ltV B.r B.c B.id x.id x.vr x.vc x.vb x.vp) (eqM x.vb B.id)
/-- The role that a port should have is put into its cells. -/
def rolA (B : Bd) (x : Pd) (q : Bool) (A : Array Value) (o : Nat) : Array Value :=
  if x.info = 0 then putL A (o + 47) [.int .i64 0]
  else if x.info = 1 then putL (putL A (o + 47) [.int .i64 2]) (o + 43) [.bool true]
  else if x.info = 2 then (if differs B x = true then putL (putL A (o + 47) [.int .i64 2]) (o + 43) [.bool true] else putL A (o + 47) [.int .i64 2])
  else if x.info = 3 then putL (putL A (o + 47) [.int .i64 (roleOf B x q)]) (o + 43) [.bool (roleOf B x q == 2)]
  else A
/-- What a port knows, and would tell, as cells of a world. -/
abbrev SP (B : Bd) (x : Pd) (bb pb o : Nat) (w : World) : Prop :=
  w.cell? ⟨bb, 0, none⟩ = some (.int .u64 B.id) ∧
  w.cell? ⟨pb, o + 48, none⟩ = some (.int .u64 B.r) ∧ w.cell? ⟨pb, o + 49, none⟩ = some (.int .u32 B.c) ∧ w.cell? ⟨pb, o + 50, none⟩ = some (.int .u64 B.id) ∧ w.cell? ⟨pb, o + 51, none⟩ = some (.int .u16 x.id) ∧
  w.cell? ⟨pb, o + 56, none⟩ = some (.int .u64 x.vr) ∧ w.cell? ⟨pb, o + 57, none⟩ = some (.int .u32 x.vc) ∧ w.cell? ⟨pb, o + 58, none⟩ = some (.int .u64 x.vb) ∧ w.cell? ⟨pb, o + 59, none⟩ = some (.int .u16 x.vp) ∧
  w.cell? ⟨pb, o + 60, none⟩ = some (.int .i64 B.ra) ∧ w.cell? ⟨pb, o + 61, none⟩ = some (.int .i64 B.rm) ∧ w.cell? ⟨pb, o + 62, none⟩ = some (.int .i64 B.h) ∧ w.cell? ⟨pb, o + 63, none⟩ = some (.int .i64 B.rd) ∧
  w.cell? ⟨pb, o + 68, none⟩ = some (.int .i64 x.a) ∧ w.cell? ⟨pb, o + 69, none⟩ = some (.int .i64 x.m) ∧ w.cell? ⟨pb, o + 70, none⟩ = some (.int .i64 x.h) ∧ w.cell? ⟨pb, o + 71, none⟩ = some (.int .i64 x.d)
theorem SP.set {B : Bd} {x : Pd} {bb pb o : Nat} {u : Value} {w : World} (_hne : bb ≠ pb) (h : SP B x bb pb o w) : SP B x bb pb o (w.setCell ⟨pb, o + 47, none⟩ u) := by
  obtain ⟨h1, h2, h3, h4, h5, h6, h7, h8, h9, h10, h11, h12, h13, h14, h15, h16, h17⟩ := h
  refine ⟨cell_set (addr_ne (by omega)) h1, cell_set (addr_ne (by omega)) h2, cell_set (addr_ne (by omega)) h3, cell_set (addr_ne (by omega)) h4, cell_set (addr_ne (by omega)) h5, cell_set (addr_ne (by omega)) h6, cell_set (addr_ne (by omega)) h7, cell_set (addr_ne (by omega)) h8, cell_set (addr_ne (by omega)) h9, cell_set (addr_ne (by omega)) h10, cell_set (addr_ne (by omega)) h11, cell_set (addr_ne (by omega)) h12, cell_set (addr_ne (by omega)) h13, cell_set (addr_ne (by omega)) h14, cell_set (addr_ne (by omega)) h15, cell_set (addr_ne (by omega)) h16, cell_set (addr_ne (by omega)) h17⟩
theorem SP.grown {B : Bd} {x : Pd} {bb pb o : Nat} {w : World} (h : SP B x bb pb o w) (d : Nat) (os : Array Obj) : SP B x bb pb o (grow (redrawn w d) os) := by
  obtain ⟨h1, h2, h3, h4, h5, h6, h7, h8, h9, h10, h11, h12, h13, h14, h15, h16, h17⟩ := h
  have hb := below_regrown w d os
  exact ⟨cell_below hb h1, cell_below hb h2, cell_below hb h3, cell_below hb h4, cell_below hb h5, cell_below hb h6, cell_below hb h7, cell_below hb h8, cell_below hb h9, cell_below hb h10, cell_below hb h11, cell_below hb h12, cell_below hb h13, cell_below hb h14, cell_below hb h15, cell_below hb h16, cell_below hb h17⟩

section
variable (B : Bd) (x : Pd) (q : Bool) (s : Value) (bb pb o : Nat) (A : Array Value) (w : World) (hbb : VarAt w bb (B.cells s) 34) (hpb : VarAt w pb A 50) (hS : SP B x bb pb o w) (hinfo : w.cell? ⟨pb, o + 44, none⟩ = some (.int .i64 x.info)) (hA : o + 90 ≤ A.size) (hne : bb ≠ pb)
include hbb hpb hS hinfo hA hne in
theorem setRole0 (hi : x.info = 0) : Calls Try.prog 30 #[.pointer (some ⟨bb, 0, none⟩), .pointer (some ⟨pb, o, none⟩), .bool q] w fun e w' => e = .returned (.tuple #[]) ∧ VarAt w' bb (B.cells s) 34 ∧ VarAt w' pb (rolA B x q A o) 50 ∧ Only pb w w' := by
  rw [show rolA B x q A o = putL A (o + 47) [.int .i64 0] by unfold rolA; rw [if_pos hi]]
  rw [hi] at hinfo
  have f47 := hpb.some (k := o + 47) (by omega)
  have f43 := hpb.some (k := o + 43) (by omega)
  have fz := hpb.frozen
  have hne' : pb ≠ bb := Ne.symm hne
  have V := Lib.hid hbb
  have P := Lib.hid hpb
  have HS := Lib.hid hS
  have W0 := Lib.hid (Only.refl pb w)
  clear hbb hpb hS hA
  clear hi
  go_enter Try.func30, Try.ntmps30
  go_wp2
  go_end0
  refine ⟨rfl, ?_, ?_, ?_⟩
  · exact VarAt.setL_other hne [.int .i64 0] (o + 47) V.out
  · exact VarAt.putL [.int .i64 0] (o + 47) P.out
  · exact Only.setL [.int .i64 0] (o + 47) W0.out
include hbb hpb hS hinfo hA hne in
theorem setRole1 (hi : x.info = 1) : Calls Try.prog 30 #[.pointer (some ⟨bb, 0, none⟩), .pointer (some ⟨pb, o, none⟩), .bool q] w fun e w' => e = .returned (.tuple #[]) ∧ VarAt w' bb (B.cells s) 34 ∧ VarAt w' pb (rolA B x q A o) 50 ∧ Only pb w w' := by
  rw [show rolA B x q A o = putL (putL A (o + 47) [.int .i64 2]) (o + 43) [.bool true] by unfold rolA; rw [if_neg (by omega), if_pos hi]]
  rw [hi] at hinfo
  have f47 := hpb.some (k := o + 47) (by omega)
  have f43 := hpb.some (k := o + 43) (by omega)
  have fz := hpb.frozen
  have hne' : pb ≠ bb := Ne.symm hne
  have V := Lib.hid hbb
  have P := Lib.hid hpb
  have HS := Lib.hid hS
  have W0 := Lib.hid (Only.refl pb w)
  clear hbb hpb hS hA
  clear hi
  go_enter Try.func30, Try.ntmps30
  go_wp2
  go_end0
  refine ⟨rfl, ?_, ?_, ?_⟩
  · exact VarAt.setL_other hne [.bool true] (o + 43) (VarAt.setL_other hne [.int .i64 2] (o + 47) V.out)
  · exact VarAt.putL [.bool true] (o + 43) (VarAt.putL [.int .i64 2] (o + 47) P.out)
  · exact Only.setL [.bool true] (o + 43) (Only.setL [.int .i64 2] (o + 47) W0.out)
include hbb hpb hS hinfo hA hne in
theorem setRole4 (h0 : ¬ x.info = 0) (h1 : ¬ x.info = 1) (h2 : ¬ x.info = 2) (h3 : ¬ x.info = 3) : Calls Try.prog 30 #[.pointer (some ⟨bb, 0, none⟩), .pointer (some ⟨pb, o, none⟩), .bool q] w fun e w' => e = .returned (.tuple #[]) ∧ VarAt w' bb (B.cells s) 34 ∧ VarAt w' pb (rolA B x q A o) 50 ∧ Only pb w w' := by
  rw [show rolA B x q A o = A by unfold rolA; rw [if_neg h0, if_neg h1, if_neg h2, if_neg h3]]
  have f47 := hpb.some (k := o + 47) (by omega)
  have f43 := hpb.some (k := o + 43) (by omega)
  have fz := hpb.frozen
  have hne' : pb ≠ bb := Ne.symm hne
  have V := Lib.hid hbb
  have P := Lib.hid hpb
  have HS := Lib.hid hS
  have W0 := Lib.hid (Only.refl pb w)
  clear hbb hpb hS hA
  generalize x.info = I at *
  go_enter Try.func30, Try.ntmps30
  go_wp2
  go_end0
  exact ⟨rfl, V.out, P.out, W0.out⟩
set_option maxHeartbeats 1000000 in
include hbb hpb hS hinfo hA hne in
theorem setRole2a (hi : x.info = 2) (hd : eqV x.vr x.vc x.vb x.vp B.r B.c B.id x.id = false) : Calls Try.prog 30 #[.pointer (some ⟨bb, 0, none⟩), .pointer (some ⟨pb, o, none⟩), .bool q] w fun e w' => e = .returned (.tuple #[]) ∧ VarAt w' bb (B.cells s) 34 ∧ VarAt w' pb (rolA B x q A o) 50 ∧ Only pb w w' := by
  rw [show rolA B x q A o = putL (putL A (o + 47) [.int .i64 2]) (o + 43) [.bool true] by unfold rolA; rw [if_neg (by omega), if_neg (by omega), if_pos hi, if_pos (by unfold differs; rw [hd]; rfl)]]
  have j1 : ∀ w, (binOp .neq 30 (vV x.vr x.vc x.vb x.vp) (vV B.r B.c B.id x.id)).run Try.prog w = .ok (.bool true) w := fun w => by rw [run_neq_struct, v_equal, hd]; rfl
  have HA := Lib.hid hA
  rw [hi] at hinfo
  have f47 := hpb.some (k := o + 47) (by omega)
  have f43 := hpb.some (k := o + 43) (by omega)
  have fz := hpb.frozen
  have hne' : pb ≠ bb := Ne.symm hne
  have V := Lib.hid hbb
  have P := Lib.hid hpb
  have HS := Lib.hid hS
  have W0 := Lib.hid (Only.refl pb w)
  clear hbb hpb hS hA
  clear hi hd
  have c := fun d os => (HS.out.set (u := .int .i64 2) hne).grown d os
  have q48 := fun d os => (c d os).2.1
  have q49 := fun d os => (c d os).2.2.1
  have q50 := fun d os => (c d os).2.2.2.1
  have q51 := fun d os => (c d os).2.2.2.2.1
  have q56 := fun d os => (c d os).2.2.2.2.2.1
  have q57 := fun d os => (c d os).2.2.2.2.2.2.1
  have q58 := fun d os => (c d os).2.2.2.2.2.2.2.1
  have q59 := fun d os => (c d os).2.2.2.2.2.2.2.2.1
  have q60 := fun d os => (c d os).2.2.2.2.2.2.2.2.2.1
  have q61 := fun d os => (c d os).2.2.2.2.2.2.2.2.2.2.1
  have q62 := fun d os => (c d os).2.2.2.2.2.2.2.2.2.2.2.1
  have q63 := fun d os => (c d os).2.2.2.2.2.2.2.2.2.2.2.2.1
  have q68 := fun d os => (c d os).2.2.2.2.2.2.2.2.2.2.2.2.2.1
  have q69 := fun d os => (c d os).2.2.2.2.2.2.2.2.2.2.2.2.2.2.1
  have q70 := fun d os => (c d os).2.2.2.2.2.2.2.2.2.2.2.2.2.2.2.1
  have q71 := fun d os => (c d os).2.2.2.2.2.2.2.2.2.2.2.2.2.2.2.2
  have V2 := Lib.hid (VarAt.setL_other hne [.int .i64 2] (o + 47) V.out)
  have P2 := Lib.hid (VarAt.putL [.int .i64 2] (o + 47) P.out)
  have W2 := Lib.hid (Only.setL [.int .i64 2] (o + 47) W0.out)
  have HA2 := Lib.hid (show (o + 43 < (putL A (o + 47) [.int .i64 2]).size) by rw [putL_size]; exact (Nat.lt_of_lt_of_le (by omega) HA.out))
  simp only [World.setCells] at V2 P2 W2
  clear c
  go_enter Try.func30, Try.ntmps30
  go_wp2_with fail
  generalize w.setCell ⟨pb, o + 47, none⟩ (.int .i64 2) = W at *
  clear f47 f43 fz hinfo HS V P W0
  refine wp_region_quiet_below (by kernel_rfl) (by kernel_rfl) ?_
  repeat (go_big_quiet_step (fail))
  refine wpQuiet_nil ?_
  intro _ hw'
  obtain ⟨⟨dq, osq⟩, hw''⟩ := hw'
  subst hw''
  have hr := below_regrown W dq osq
  have V3 := Lib.hid (V2.out.below hr V2.out.lt)
  have P3 := Lib.hid (P2.out.below hr P2.out.lt)
  have W3 := Lib.hid (W2.out.trans (only_below hr pb))
  have f43 := P3.out.some (k := o + 43) HA2.out
  have fz := P3.out.frozen
  clear hr q48 q49 q50 q51 q56 q57 q58 q59 q60 q61 q62 q63 q68 q69 q70 q71 V2 P2 W2
  generalize grow (redrawn W dq) osq = W' at *
  go_wp2
  go_end0
  refine ⟨rfl, ?_, ?_, ?_⟩
  · exact VarAt.setL_other hne [.bool true] (o + 43) V3.out
  · exact VarAt.putL [.bool true] (o + 43) P3.out
  · exact Only.setL [.bool true] (o + 43) W3.out
set_option maxHeartbeats 1000000 in
include hbb hpb hS hinfo hA hne in
theorem setRole2b (hi : x.info = 2) (hd : eqV x.vr x.vc x.vb x.vp B.r B.c B.id x.id = true) (ht : eqT x.a x.m x.h x.d B.ra B.rm B.h B.rd = false) : Calls Try.prog 30 #[.pointer (some ⟨bb, 0, none⟩), .pointer (some ⟨pb, o, none⟩), .bool q] w fun e w' => e = .returned (.tuple #[]) ∧ VarAt w' bb (B.cells s) 34 ∧ VarAt w' pb (rolA B x q A o) 50 ∧ Only pb w w' := by
  rw [show rolA B x q A o = putL (putL A (o + 47) [.int .i64 2]) (o + 43) [.bool true] by unfold rolA; rw [if_neg (by omega), if_neg (by omega), if_pos hi, if_pos (by unfold differs; rw [hd, ht]; rfl)]]
  have j1 : ∀ w, (binOp .neq 30 (vV x.vr x.vc x.vb x.vp) (vV B.r B.c B.id x.id)).run Try.prog w = .ok (.bool false) w := fun w => by rw [run_neq_struct, v_equal, hd]; rfl
  have j2 : ∀ w, (binOp .neq 25 (tmV x.a x.m x.h x.d) (tmV B.ra B.rm B.h B.rd)).run Try.prog w = .ok (.bool true) w := fun w => by rw [run_neq_struct, t_equal, ht]; rfl
  have HA := Lib.hid hA
  rw [hi] at hinfo
  have f47 := hpb.some (k := o + 47) (by omega)
  have f43 := hpb.some (k := o + 43) (by omega)
  have fz := hpb.frozen
  have hne' : pb ≠ bb := Ne.symm hne
  have V := Lib.hid hbb
  have P := Lib.hid hpb
  have HS := Lib.hid hS
  have W0 := Lib.hid (Only.refl pb w)
  clear hbb hpb hS hA
  clear hi hd ht
  have c := fun d os => (HS.out.set (u := .int .i64 2) hne).grown d os
  have q48 := fun d os => (c d os).2.1
  have q49 := fun d os => (c d os).2.2.1
  have q50 := fun d os => (c d os).2.2.2.1
  have q51 := fun d os => (c d os).2.2.2.2.1
  have q56 := fun d os => (c d os).2.2.2.2.2.1
  have q57 := fun d os => (c d os).2.2.2.2.2.2.1
  have q58 := fun d os => (c d os).2.2.2.2.2.2.2.1
  have q59 := fun d os => (c d os).2.2.2.2.2.2.2.2.1
  have q60 := fun d os => (c d os).2.2.2.2.2.2.2.2.2.1
  have q61 := fun d os => (c d os).2.2.2.2.2.2.2.2.2.2.1
  have q62 := fun d os => (c d os).2.2.2.2.2.2.2.2.2.2.2.1
  have q63 := fun d os => (c d os).2.2.2.2.2.2.2.2.2.2.2.2.1
  have q68 := fun d os => (c d os).2.2.2.2.2.2.2.2.2.2.2.2.2.1
  have q69 := fun d os => (c d os).2.2.2.2.2.2.2.2.2.2.2.2.2.2.1
  have q70 := fun d os => (c d os).2.2.2.2.2.2.2.2.2.2.2.2.2.2.2.1
  have q71 := fun d os => (c d os).2.2.2.2.2.2.2.2.2.2.2.2.2.2.2.2
  have V2 := Lib.hid (VarAt.setL_other hne [.int .i64 2] (o + 47) V.out)
  have P2 := Lib.hid (VarAt.putL [.int .i64 2] (o + 47) P.out)
  have W2 := Lib.hid (Only.setL [.int .i64 2] (o + 47) W0.out)
  have HA2 := Lib.hid (show (o + 43 < (putL A (o + 47) [.int .i64 2]).size) by rw [putL_size]; exact (Nat.lt_of_lt_of_le (by omega) HA.out))
  simp only [World.setCells] at V2 P2 W2
  clear c
  go_enter Try.func30, Try.ntmps30
  go_wp2_with fail
  generalize w.setCell ⟨pb, o + 47, none⟩ (.int .i64 2) = W at *
  clear f47 f43 fz hinfo HS V P W0
  refine wp_region_quiet_below (by kernel_rfl) (by kernel_rfl) ?_
  repeat (go_big_quiet_step (fail))
  refine wpQuiet_nil ?_
  intro _ hw'
  obtain ⟨⟨dq, osq⟩, hw''⟩ := hw'
  subst hw''
  have hr := below_regrown W dq osq
  have V3 := Lib.hid (V2.out.below hr V2.out.lt)
  have P3 := Lib.hid (P2.out.below hr P2.out.lt)
  have W3 := Lib.hid (W2.out.trans (only_below hr pb))
  have f43 := P3.out.some (k := o + 43) HA2.out
  have fz := P3.out.frozen
  clear hr q48 q49 q50 q51 q56 q57 q58 q59 q60 q61 q62 q63 q68 q69 q70 q71 V2 P2 W2
  generalize grow (redrawn W dq) osq = W' at *
  go_wp2
  go_end0
  refine ⟨rfl, ?_, ?_, ?_⟩
  · exact VarAt.setL_other hne [.bool true] (o + 43) V3.out
  · exact VarAt.putL [.bool true] (o + 43) P3.out
  · exact Only.setL [.bool true] (o + 43) W3.out
set_option maxHeartbeats 1000000 in
include hbb hpb hS hinfo hA hne in
theorem setRole2c (hi : x.info = 2) (hd : eqV x.vr x.vc x.vb x.vp B.r B.c B.id x.id = true) (ht : eqT x.a x.m x.h x.d B.ra B.rm B.h B.rd = true) : Calls Try.prog 30 #[.pointer (some ⟨bb, 0, none⟩), .pointer (some ⟨pb, o, none⟩), .bool q] w fun e w' => e = .returned (.tuple #[]) ∧ VarAt w' bb (B.cells s) 34 ∧ VarAt w' pb (rolA B x q A o) 50 ∧ Only pb w w' := by
  rw [show rolA B x q A o = putL A (o + 47) [.int .i64 2] by unfold rolA; rw [if_neg (by omega), if_neg (by omega), if_pos hi, if_neg (by unfold differs; rw [hd, ht]; simp)]]
  have j1 : ∀ w, (binOp .neq 30 (vV x.vr x.vc x.vb x.vp) (vV B.r B.c B.id x.id)).run Try.prog w = .ok (.bool false) w := fun w => by rw [run_neq_struct, v_equal, hd]; rfl
  have j2 : ∀ w, (binOp .neq 25 (tmV x.a x.m x.h x.d) (tmV B.ra B.rm B.h B.rd)).run Try.prog w = .ok (.bool false) w := fun w => by rw [run_neq_struct, t_equal, ht]; rfl
  have HA := Lib.hid hA
  rw [hi] at hinfo
  have f47 := hpb.some (k := o + 47) (by omega)
  have f43 := hpb.some (k := o + 43) (by omega)
  have fz := hpb.frozen
  have hne' : pb ≠ bb := Ne.symm hne
  have V := Lib.hid hbb
  have P := Lib.hid hpb
  have HS := Lib.hid hS
  have W0 := Lib.hid (Only.refl pb w)
  clear hbb hpb hS hA
  clear hi hd ht
  have c := fun d os => (HS.out.set (u := .int .i64 2) hne).grown d os
  have q48 := fun d os => (c d os).2.1
  have q49 := fun d os => (c d os).2.2.1
  have q50 := fun d os => (c d os).2.2.2.1
  have q51 := fun d os => (c d os).2.2.2.2.1
  have q56 := fun d os => (c d os).2.2.2.2.2.1
  have q57 := fun d os => (c d os).2.2.2.2.2.2.1
  have q58 := fun d os => (c d os).2.2.2.2.2.2.2.1
  have q59 := fun d os => (c d os).2.2.2.2.2.2.2.2.1
  have q60 := fun d os => (c d os).2.2.2.2.2.2.2.2.2.1
  have q61 := fun d os => (c d os).2.2.2.2.2.2.2.2.2.2.1
  have q62 := fun d os => (c d os).2.2.2.2.2.2.2.2.2.2.2.1
  have q63 := fun d os => (c d os).2.2.2.2.2.2.2.2.2.2.2.2.1
  have q68 := fun d os => (c d os).2.2.2.2.2.2.2.2.2.2.2.2.2.1
  have q69 := fun d os => (c d os).2.2.2.2.2.2.2.2.2.2.2.2.2.2.1
  have q70 := fun d os => (c d os).2.2.2.2.2.2.2.2.2.2.2.2.2.2.2.1
  have q71 := fun d os => (c d os).2.2.2.2.2.2.2.2.2.2.2.2.2.2.2.2
  have V2 := Lib.hid (VarAt.setL_other hne [.int .i64 2] (o + 47) V.out)
  have P2 := Lib.hid (VarAt.putL [.int .i64 2] (o + 47) P.out)
  have W2 := Lib.hid (Only.setL [.int .i64 2] (o + 47) W0.out)
  have HA2 := Lib.hid (show (o + 43 < (putL A (o + 47) [.int .i64 2]).size) by rw [putL_size]; exact (Nat.lt_of_lt_of_le (by omega) HA.out))
  simp only [World.setCells] at V2 P2 W2
  clear c
  go_enter Try.func30, Try.ntmps30
  go_wp2_with fail
  generalize w.setCell ⟨pb, o + 47, none⟩ (.int .i64 2) = W at *
  clear f47 f43 fz hinfo HS V P W0
  refine wp_region_quiet_below (by kernel_rfl) (by kernel_rfl) ?_
  repeat (go_big_quiet_step (fail))
  refine wpQuiet_nil ?_
  intro _ hw'
  obtain ⟨⟨dq, osq⟩, hw''⟩ := hw'
  subst hw''
  have hr := below_regrown W dq osq
  have V3 := Lib.hid (V2.out.below hr V2.out.lt)
  have P3 := Lib.hid (P2.out.below hr P2.out.lt)
  have W3 := Lib.hid (W2.out.trans (only_below hr pb))
  have f43 := P3.out.some (k := o + 43) HA2.out
  have fz := P3.out.frozen
  clear hr q48 q49 q50 q51 q56 q57 q58 q59 q60 q61 q62 q63 q68 q69 q70 q71 V2 P2 W2
  generalize grow (redrawn W dq) osq = W' at *
  go_wp2
  go_end0
  exact ⟨rfl, V3.out, P3.out, W3.out⟩
set_option maxHeartbeats 1000000 in
include hbb hpb hS hinfo hA hne in
theorem setRole3 (hi : x.info = 3) (l1 : B.id < 18446744073709551616) (l2 : x.vb < 18446744073709551616) : Calls Try.prog 30 #[.pointer (some ⟨bb, 0, none⟩), .pointer (some ⟨pb, o, none⟩), .bool q] w fun e w' => e = .returned (.tuple #[]) ∧ VarAt w' bb (B.cells s) 34 ∧ VarAt w' pb (rolA B x q A o) 50 ∧ Only pb w w' := by
  rw [show rolA B x q A o = putL (putL A (o + 47) [.int .i64 (roleOf B x q)]) (o + 43) [.bool (roleOf B x q == 2)] by unfold rolA; rw [if_neg (by omega), if_neg (by omega), if_neg (by omega), if_pos hi]]
  have k := roleR_any q bb pb o B.id B.r B.c B.id x.id x.vr x.vc x.vb x.vp l1 l2 w ⟨hS.1, hS.2.1, hS.2.2.1, hS.2.2.2.1, hS.2.2.2.2.1, hS.2.2.2.2.2.1, hS.2.2.2.2.2.2.1, hS.2.2.2.2.2.2.2.1, hS.2.2.2.2.2.2.2.2.1⟩
  change Calls _ _ _ _ (fun e w' => e = .returned (.int .i64 (roleOf B x q)) ∧ _) at k
  have HA := Lib.hid hA
  rw [hi] at hinfo
  generalize roleOf B x q = R at *
  have f47 := hpb.some (k := o + 47) (by omega)
  have f43 := hpb.some (k := o + 43) (by omega)
  have fz := hpb.frozen
  have hne' : pb ≠ bb := Ne.symm hne
  have V := Lib.hid hbb
  have P := Lib.hid hpb
  have HS := Lib.hid hS
  have W0 := Lib.hid (Only.refl pb w)
  clear hbb hpb hS hA
  clear hi l1 l2
  go_enter Try.func30, Try.ntmps30
  go_wp2_with fail
  refine k.mono ?_
  rintro e w1 ⟨rfl, hb⟩
  have V2 := Lib.hid (V.out.below hb V.out.lt)
  have P2 := Lib.hid (P.out.below hb P.out.lt)
  have W2 := Lib.hid (W0.out.trans (only_below hb pb))
  have g47 := P2.out.some (k := o + 47) (Nat.lt_of_lt_of_le (by omega) HA.out)
  have g43 := P2.out.some (k := o + 43) (Nat.lt_of_lt_of_le (by omega) HA.out)
  have gz := P2.out.frozen
  clear k hb f47 f43 fz hinfo HS V P W0
  go_wp2
  go_end0
  refine ⟨rfl, ?_, ?_, ?_⟩
  · exact VarAt.setL_other hne [.bool (R == 2)] (o + 43) (VarAt.setL_other hne [.int .i64 R] (o + 47) V2.out)
  · exact VarAt.putL [.bool (R == 2)] (o + 43) (VarAt.putL [.int .i64 R] (o + 47) P2.out)
  · exact Only.setL [.bool (R == 2)] (o + 43) (Only.setL [.int .i64 R] (o + 47) W2.out)
include hbb hpb hS hinfo hA hne in
theorem setRole_any (l1 : B.id < 18446744073709551616) (l2 : x.vb < 18446744073709551616) : Calls Try.prog 30 #[.pointer (some ⟨bb, 0, none⟩), .pointer (some ⟨pb, o, none⟩), .bool q] w fun e w' => e = .returned (.tuple #[]) ∧ VarAt w' bb (B.cells s) 34 ∧ VarAt w' pb (rolA B x q A o) 50 ∧ Only pb w w' := by
  by_cases h0 : x.info = 0
  · exact setRole0 B x q s bb pb o A w hbb hpb hS hinfo hA hne h0
  by_cases h1 : x.info = 1
  · exact setRole1 B x q s bb pb o A w hbb hpb hS hinfo hA hne h1
  by_cases h2 : x.info = 2
  · cases hd : eqV x.vr x.vc x.vb x.vp B.r B.c B.id x.id
    · exact setRole2a B x q s bb pb o A w hbb hpb hS hinfo hA hne h2 hd
    · cases ht : eqT x.a x.m x.h x.d B.ra B.rm B.h B.rd
      · exact setRole2b B x q s bb pb o A w hbb hpb hS hinfo hA hne h2 hd ht
      · exact setRole2c B x q s bb pb o A w hbb hpb hS hinfo hA hne h2 hd ht
  by_cases h3 : x.info = 3
  · exact setRole3 B x q s bb pb o A w hbb hpb hS hinfo hA hne h3 l1 l2
  · exact setRole4 B x q s bb pb o A w hbb hpb hS hinfo hA hne h0 h1 h2 h3
end
end Go.Proofs.Ytidgdanhnpfpmaa

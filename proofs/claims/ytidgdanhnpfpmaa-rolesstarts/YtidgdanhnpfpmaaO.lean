/- Contract of setDesignated. -/
import Derived.Test.YtidgdanhnpfpmaaGe
namespace Go.Proofs.Ytidgdanhnpfpmaa
open Go.RowKit Go.Sort

/-- What a port would tell is put into its cells. -/
def desA (B : Bd) (q : Nat) (A : Array Value) (o : Nat) : Array Value :=
  putL (putL (putL A (o + 48) [.int .u64 B.r, .int .u32 B.c, .int .u64 B.id, .int .u16 q]) (o + 60) [.int .i64 B.ra, .int .i64 B.rm, .int .i64 B.rh, .int .i64 B.rd]) (o + 62) [.int .i64 B.h]
theorem s30 : (Try.prog.info? 30).map (·.size) = some 4 := by kernel_rfl
theorem s25 : (Try.prog.info? 25).map (·.size) = some 4 := by kernel_rfl
theorem store_vec (b o : Nat) (r c g p : Int) (w : World) (h : w.there b o 4) : (Instr.storeAt 30 (.pointer (some ⟨b, o, none⟩)) (vV r c g p)).run Try.prog w = .ok () (w.setCells b o [.int .u64 r, .int .u32 c, .int .u64 g, .int .u16 p]) :=
  run_storeAt_mid w b o 30 (vC r c g p) h (by rw [s30]; rfl) (by simp [Value.oneCell'])
theorem store_tm (b o : Nat) (x m h d : Int) (w : World) (ht : w.there b o 4) : (Instr.storeAt 25 (.pointer (some ⟨b, o, none⟩)) (tmV x m h d)).run Try.prog w = .ok () (w.setCells b o [.int .i64 x, .int .i64 m, .int .i64 h, .int .i64 d]) :=
  run_storeAt_mid w b o 25 (tmC x m h d) ht (by rw [s25]; rfl) (by simp [Value.oneCell'])
theorem tell_nat (r c b p i q : Nat) (w : World) : Calls Try.prog 37 #[vV r c b p, .int .u64 i, .int .u16 q] w fun e w' => e = .returned (vV r c i q) ∧ Below w.heap.size w w' := tell_any r c b p i q w
/-- What stands in a cell. -/
def cellD (w : World) (b k : Nat) : Value := (w.cell? ⟨b, k, none⟩).getD undef
theorem cellD_of {w : World} {b k : Nat} (h : (w.cell? ⟨b, k, none⟩).isSome = true) : w.cell? ⟨b, k, none⟩ = some (cellD w b k) := by
  obtain ⟨v, hv⟩ := Option.isSome_iff_exists.1 h
  unfold cellD; rw [hv]; rfl
theorem isSome_set {w : World} {a x : Addr} {u : Value} (h : (w.cell? x).isSome = true) : ((w.setCell a u).cell? x).isSome = true := by
  obtain ⟨v, hv⟩ := Option.isSome_iff_exists.1 h
  by_cases e : a = x
  · subst e; rw [World.cell?_setCell_same _ _ _ hv]; rfl
  · rw [World.cell?_setCell_other _ _ _ _ e, hv]; rfl
theorem cellD_set {w : World} {a : Addr} {u : Value} {b k : Nat} (h : w.cell? ⟨b, k, none⟩ = some (cellD w b k)) : (w.setCell a u).cell? ⟨b, k, none⟩ = some (cellD (w.setCell a u) b k) :=
  cellD_of (isSome_set (by rw [h]; rfl))
theorem cellD_below {w w1 : World} (hb : Below w.heap.size w w1) {b k : Nat} (h : w.cell? ⟨b, k, none⟩ = some (cellD w b k)) : w1.cell? ⟨b, k, none⟩ = some (cellD w1 b k) :=
  cellD_of (by rw [hb.cell (by exact block_lt_of_cell h), h]; rfl)
theorem cell_below {w w1 : World} (hb : Below w.heap.size w w1) {a : Addr} {v : Value} (h : w.cell? a = some v) : w1.cell? a = some v := by
  rw [hb.cell (block_lt_of_cell h)]; exact h
theorem cell_set {w : World} {a x : Addr} {u v : Value} (hne : a ≠ x) (h : w.cell? x = some v) : (w.setCell a u).cell? x = some v := by
  rw [World.cell?_setCell_other _ _ _ _ hne]; exact h
theorem addr_ne {b o b' o' : Nat} (h : b ≠ b' ∨ o ≠ o') : (⟨b, o, none⟩ : Addr) ≠ ⟨b', o', none⟩ := fun e => by
  cases e; simp at h
/-- What the first region of setDesignated asks of the world. -/
abbrev SD (B : Bd) (bb pb o q : Nat) (w : World) : Prop :=
  w.cell? ⟨bb, 7, none⟩ = some (.int .u64 B.r) ∧ w.cell? ⟨bb, 8, none⟩ = some (.int .u32 B.c) ∧ w.cell? ⟨bb, 9, none⟩ = some (.int .u64 B.b) ∧ w.cell? ⟨bb, 10, none⟩ = some (.int .u16 B.p) ∧ w.cell? ⟨bb, 0, none⟩ = some (.int .u64 B.id) ∧ w.cell? ⟨pb, o, none⟩ = some (.int .u16 q) ∧
  w.cell? ⟨pb, o + 48, none⟩ = some (cellD w pb (o + 48)) ∧ w.cell? ⟨pb, o + 49, none⟩ = some (cellD w pb (o + 49)) ∧ w.cell? ⟨pb, o + 50, none⟩ = some (cellD w pb (o + 50)) ∧ w.cell? ⟨pb, o + 51, none⟩ = some (cellD w pb (o + 51)) ∧
  (∀ k, w.frozen? ⟨pb, k, none⟩ = false)
theorem SD.call {B : Bd} {bb pb o q : Nat} {w w1 : World} (hb : Below w.heap.size w w1) (h : SD B bb pb o q w) : SD B bb pb o q w1 := by
  obtain ⟨h1, h2, h3, h4, h5, h6, h7, h8, h9, h10, h11⟩ := h
  exact ⟨cell_below hb h1, cell_below hb h2, cell_below hb h3, cell_below hb h4, cell_below hb h5, cell_below hb h6, cellD_below hb h7, cellD_below hb h8, cellD_below hb h9, cellD_below hb h10, fun k => by rw [hb.frozen (p := ⟨pb, k, none⟩) (by exact block_lt_of_cell (a := ⟨pb, o, none⟩) h6)]; exact h11 k⟩
theorem SD.set {B : Bd} {bb pb o q k : Nat} {u : Value} {w : World} (hne : bb ≠ pb) (hk : k ≠ o) (h : SD B bb pb o q w) : SD B bb pb o q (w.setCell ⟨pb, k, none⟩ u) := by
  obtain ⟨h1, h2, h3, h4, h5, h6, h7, h8, h9, h10, h11⟩ := h
  exact ⟨cell_set (addr_ne (by omega)) h1, cell_set (addr_ne (by omega)) h2, cell_set (addr_ne (by omega)) h3, cell_set (addr_ne (by omega)) h4, cell_set (addr_ne (by omega)) h5, cell_set (addr_ne (by omega)) h6, cellD_set h7, cellD_set h8, cellD_set h9, cellD_set h10, fun k => by rw [World.frozen?_setCell]; exact h11 k⟩
theorem VarAt.some {w : World} {b : Nat} {xs : Array Value} {t : TypeId} (h : VarAt w b xs t) {k : Nat} (hk : k < xs.size) : w.cell? ⟨b, k, none⟩ = some (cellD w b k) := cellD_of (by rw [h.cell]; simp; omega)

set_option maxHeartbeats 1000000 in
theorem setDes_any (B : Bd) (s : Value) (bb pb o q : Nat) (A : Array Value) (w : World) (hbb : VarAt w bb (B.cells s) 34) (hpb : VarAt w pb A 50) (hq : A[o]? = some (.int .u16 q)) (hA : o + 90 ≤ A.size) (hne : bb ≠ pb) :
    Calls Try.prog 29 #[.pointer (some ⟨bb, 0, none⟩), .pointer (some ⟨pb, o, none⟩)] w fun e w' => e = .returned (.tuple #[]) ∧ VarAt w' bb (B.cells s) 34 ∧ VarAt w' pb (desA B q A o) 50 ∧ Only pb w w' := by
  have d0 : w.cell? ⟨bb, 0, none⟩ = some (.int .u64 B.id) := hbb.cell 0
  have d7 : w.cell? ⟨bb, 7, none⟩ = some (.int .u64 B.r) := hbb.cell 7
  have d8 : w.cell? ⟨bb, 8, none⟩ = some (.int .u32 B.c) := hbb.cell 8
  have d9 : w.cell? ⟨bb, 9, none⟩ = some (.int .u64 B.b) := hbb.cell 9
  have d10 : w.cell? ⟨bb, 10, none⟩ = some (.int .u16 B.p) := hbb.cell 10
  have dq : w.cell? ⟨pb, o, none⟩ = some (.int .u16 q) := by rw [hpb.cell]; exact hq
  have k1 := tell_nat B.r B.c B.b B.p B.id q
  have HS0 := Lib.hid (show SD B bb pb o q w.drew from ⟨d7, d8, d9, d10, d0, dq, hpb.drew.some (by omega), hpb.drew.some (by omega), hpb.drew.some (by omega), hpb.drew.some (by omega), hpb.frozen⟩)
  have HV := Lib.hid hbb
  have HP := Lib.hid hpb
  have HA := Lib.hid hA
  have HQ := Lib.hid hq
  clear hbb hpb hA hq
  go_enter Try.func29, Try.ntmps29
  go_wp2_with fail
  go_region_held (fun w' => SD B bb pb o q w')
    (first | with_reducible exact HS0.out | with_reducible assumption | exact SD.call hb (by with_reducible assumption) | exact SD.set hne (by omega) (SD.set hne (by omega) (SD.set hne (by omega) (SD.set hne (by omega) (by with_reducible assumption)))))
    (first | (go_at_call 37; refine (k1 _).mono ?_; rintro e w1 ⟨rfl, hb⟩))
  have v1 := HV.out.drew.below hb HV.out.lt
  have p1 := HP.out.drew.below hb HP.out.lt
  have p2 := VarAt.putL [.int .u64 B.r, .int .u32 B.c, .int .u64 B.id, .int .u16 q] (o + 48) p1
  have v2 := VarAt.setL_other hne [.int .u64 B.r, .int .u32 B.c, .int .u64 B.id, .int .u16 q] (o + 48) v1
  have b2 := Only.setL [.int .u64 B.r, .int .u32 B.c, .int .u64 B.id, .int .u16 q] (o + 48) ((Only.refl pb w).drew.trans (only_below hb pb))
  have z2 := putL_size [.int .u64 B.r, .int .u32 B.c, .int .u64 B.id, .int .u16 q] A (o + 48)
  simp only [World.setCells] at p2 v2 b2
  clear d0 d7 d8 d9 d10 dq k1 HS0 v1 p1 hb
  generalize (((w1.setCell ⟨pb, o + 48, none⟩ (.int .u64 B.r)).setCell ⟨pb, o + 49, none⟩ (.int .u32 B.c)).setCell ⟨pb, o + 50, none⟩ (.int .u64 B.id)).setCell ⟨pb, o + 51, none⟩ (.int .u16 q) = W at *
  generalize hA1 : putL A (o + 48) [.int .u64 B.r, .int .u32 B.c, .int .u64 B.id, .int .u16 q] = A1 at *
  have HA1 := Lib.hid hA1
  clear hA1
  have hA2 : o + 90 ≤ A1.size := by rw [z2]; exact HA.out
  have e3 : W.cell? ⟨bb, 3, none⟩ = some (.int .i64 B.h) := v2.cell 3
  have e12 : W.cell? ⟨bb, 12, none⟩ = some (.int .i64 B.ra) := v2.cell 12
  have e13 : W.cell? ⟨bb, 13, none⟩ = some (.int .i64 B.rm) := v2.cell 13
  have e14 : W.cell? ⟨bb, 14, none⟩ = some (.int .i64 B.rh) := v2.cell 14
  have e15 : W.cell? ⟨bb, 15, none⟩ = some (.int .i64 B.rd) := v2.cell 15
  have f60 := p2.some (k := o + 60) (by omega)
  have f61 := p2.some (k := o + 61) (by omega)
  have f62 := p2.some (k := o + 62) (by omega)
  have f63 := p2.some (k := o + 63) (by omega)
  have fz := p2.frozen
  have V2 := Lib.hid v2
  have P2 := Lib.hid p2
  have B2 := Lib.hid b2
  have hne' : pb ≠ bb := Ne.symm hne
  clear v2 p2 b2 z2 hA2 ‹SD B bb pb o q W›
  go_wp2_with fail
  go_end0
  refine ⟨rfl, ?_, ?_, ?_⟩
  · exact VarAt.setL_other hne [.int .i64 B.h] (o + 62) (VarAt.setL_other hne [.int .i64 B.ra, .int .i64 B.rm, .int .i64 B.rh, .int .i64 B.rd] (o + 60) V2.out)
  · unfold desA
    rw [HA1.out]
    exact VarAt.putL [.int .i64 B.h] (o + 62) (VarAt.putL [.int .i64 B.ra, .int .i64 B.rm, .int .i64 B.rh, .int .i64 B.rd] (o + 60) P2.out)
  · exact Only.setL [.int .i64 B.h] (o + 62) (Only.setL [.int .i64 B.ra, .int .i64 B.rm, .int .i64 B.rh, .int .i64 B.rd] (o + 60) B2.out)
end Go.Proofs.Ytidgdanhnpfpmaa

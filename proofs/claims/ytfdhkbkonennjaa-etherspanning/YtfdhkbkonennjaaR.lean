/- Equality of addresses and of the reference's frames; what is read of a frame's own bytes. -/
import Derived.Test.YtfdhkbkonennjaaQ
import Derived.Test.YtfdhkbkonennjaaP
namespace Go.Proofs.Ytfdhkbkonennjaa
open Go.RowKit Go.Sort

theorem und30 : Try.prog.underlying 30 = some (.struct (Try.prog.fieldsOf 30)) := by kernel_rfl
theorem held30 : Try.prog.stoodInHeld 30 = false := by kernel_rfl
theorem g30 : Try.prog.eqGuardType Try.prog.depth 30 = false := by kernel_rfl
theorem fields30 : (Try.prog.fieldsOf 30).toList.map (fun f => (f.name, f.type, f.offset)) = [("To", 22, 0), ("From", 22, 6), ("Type", 3, 12), ("Body", 9, 13)] := by kernel_rfl
theorem rf_part0 (x y : Nat → Nat) (t : Nat) (l : List UInt8) (w : World) : (part 22 (rfC x y t l) 0).run Try.prog w = .ok (macV x) w := by kernel_rfl
theorem rf_part6 (x y : Nat → Nat) (t : Nat) (l : List UInt8) (w : World) : (part 22 (rfC x y t l) 6).run Try.prog w = .ok (macV y) w := by kernel_rfl
theorem rf_part12 (x y : Nat → Nat) (t : Nat) (l : List UInt8) (w : World) : (part 3 (rfC x y t l) 12).run Try.prog w = .ok (.int .i64 t) w := by kernel_rfl
theorem rf_part13 (x y : Nat → Nat) (t : Nat) (l : List UInt8) (w : World) : (part 9 (rfC x y t l) 13).run Try.prog w = .ok (strV l) w := by kernel_rfl
theorem und3 : Try.prog.underlying 3 = some (.int .i64) := by kernel_rfl
theorem rf_same (x y : Nat → Nat) (t : Nat) (l : List UInt8) (w : World) : (Op.equalIn 10000 30 (rfV x y t l) (rfV x y t l)).run Try.prog w = .ok true w := by
  rw [run_equalIn_struct w 9999 30 _ _ und30 held30]
  have hf := fields30
  generalize (Try.prog.fieldsOf 30).toList = fs at hf ⊢
  obtain ⟨f1, f2, f3, f4, rfl⟩ : ∃ f1 f2 f3 f4, fs = [f1, f2, f3, f4] := by
    have hl := congrArg List.length hf
    simp at hl
    match fs, hl with
    | [f1, f2, f3, f4], _ => exact ⟨f1, f2, f3, f4, rfl⟩
  simp only [List.map_cons, List.map_nil, List.cons.injEq, Prod.mk.injEq, and_true] at hf
  obtain ⟨⟨n1, t1, o1⟩, ⟨n2, t2, o2⟩, ⟨n3, t3, o3⟩, ⟨n4, t4, o4⟩⟩ := hf
  have m := fun (x : Nat → Nat) w => mac_eqT 9997 22 undA (x 0) (x 1) (x 2) (x 3) (x 4) (x 5) (x 0) (x 1) (x 2) (x 3) (x 4) (x 5) w
  simp only [beq_self_eq_true, Bool.and_self] at m
  have i3 := fun w => run_equalIn_int (P := Try.prog) w 9998 3 .i64 .i64 t t und3
  have s9 := fun w => run_equalIn_string (P := Try.prog) w 9998 9 ⟨l.toArray⟩ ⟨l.toArray⟩ und9
  simp only [Op.eqFields, n1, n2, n3, n4, t1, t2, t3, t4, o1, o2, o3, o4]
  simp [Sem.run_bind, rf_part0, rf_part6, rf_part12, rf_part13, m, i3, s9]
theorem frB_cons (x y : Nat → Nat) (t : Nat) (l : List UInt8) : frB x y t l = UInt8.ofNat (x 0) :: UInt8.ofNat (x 1) :: UInt8.ofNat (x 2) :: UInt8.ofNat (x 3) :: UInt8.ofNat (x 4) :: UInt8.ofNat (x 5) :: UInt8.ofNat (y 0) :: UInt8.ofNat (y 1) :: UInt8.ofNat (y 2) :: UInt8.ofNat (y 3) :: UInt8.ofNat (y 4) :: UInt8.ofNat (y 5) ::
    UInt8.ofNat (numB t l.length / 256 % 256) :: UInt8.ofNat (numB t l.length % 256) :: (l ++ List.replicate (46 - l.length) 0) := by
  have e : 60 - (14 + l.length) = 46 - l.length := by omega
  simp [frB, frH, macL, lw, e]
theorem u8_of {n : Nat} (h : n < 256) : (UInt8.ofNat n).toNat = n := by rw [UInt8.toNat_ofNat', Nat.mod_eq_of_lt h]
theorem byt_cons0 (a : UInt8) (l : List UInt8) : byt (a :: l) 0 = a.toNat := rfl
theorem byt_cons (a : UInt8) (l : List UInt8) (k : Nat) : byt (a :: l) (k + 1) = byt l k := by simp [byt]
variable {x y : Nat → Nat} {t : Nat} {l : List UInt8}
theorem frB_fr (hx : ∀ i, x i < 256) (hy : ∀ i, y i < 256) (u : Nat) (v : Value) : frV (byt (frB x y t l)) (byt ((frB x y t l).drop 6)) u v = frV x y u v := by
  rw [frB_cons]
  simp only [frV, frC, List.drop_succ_cons, List.drop_zero, byt_cons0, byt_cons, u8_of (hx _), u8_of (hy _)]
theorem frB_num (ht : t < 65536) (hl : l.length ≤ 1500) : rdN (frB x y t l) = numB t l.length := by
  have hn : numB t l.length < 65536 := by unfold numB; split <;> omega
  rw [frB_cons]
  simp only [rdN, numAt, List.drop_succ_cons, List.drop_zero, byt_cons0, byt_cons]
  rw [u8_of (by omega), u8_of (by omega)]
  omega
theorem frB_err (hy : ∀ i, y i < 256) (ht : t < 65536) (h : Rt y t l.length) : rdE (frB x y t l) = 0 := by
  have hl := h.2.1
  have e1 := frB_len x y t l
  have e2 := frB_num (x := x) (y := y) ht hl
  have e3 : byt ((frB x y t l).drop 6) 0 = y 0 := by
    rw [frB_cons]
    simp only [List.drop_succ_cons, List.drop_zero, byt_cons0, u8_of (hy _)]
  have h0 := h.1
  have h1 := h.2.2
  unfold rdE
  rw [e2, e3, e1]
  unfold numB
  rw [if_neg (by omega), if_neg (by omega), if_neg (by omega)]
  split <;> (rw [if_neg (by omega), if_neg (by omega)])
theorem frB_typ (ht : t < 65536) (h : Rt y t l.length) : rdT (frB x y t l) = t := by
  have h1 := h.2.2
  have hl := h.2.1
  unfold rdT
  rw [frB_num ht hl]
  unfold numB
  split
  · rw [if_neg (by omega)]; omega
  · rw [if_pos (by omega)]
/-- What is read as the Body of a frame that was encoded. -/
def gotB (t : Nat) (l : List UInt8) : List UInt8 := if t = 0 then l else l ++ List.replicate (46 - l.length) 0
theorem frB_body (ht : t < 65536) (h : Rt y t l.length) : rdB (frB x y t l) = gotB t l := by
  have h1 := h.2.2
  have hl := h.2.1
  have e1 := frB_len x y t l
  have e3 : (frB x y t l).drop 14 = l ++ List.replicate (46 - l.length) 0 := by rw [frB_cons]; rfl
  unfold rdB gotB
  rw [frB_num ht hl, e3]
  unfold bodyN numB
  split
  · rw [if_neg (by omega), List.take_left]
  · rw [if_pos (by omega)]
    exact List.take_of_length_le (by rw [List.length_append, List.length_replicate]; omega)
end Go.Proofs.Ytfdhkbkonennjaa

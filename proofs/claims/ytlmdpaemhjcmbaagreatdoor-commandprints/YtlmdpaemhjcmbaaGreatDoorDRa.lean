/- The reference: a kind's words, what the others are, figures, numbers. -/
import Derived.Test.YtlmdpaemhjcmbaaGreatDoorDWh
namespace Go.Proofs.YtlmdpaemhjcmbaaGreatDoor.Cd
open Go.RowKit Go.Sort Go.Lib

set_option maxRecDepth 20000 in
theorem words_cells (w : World) : ∀ k : Nat, k < 15 → (w.alloc (.cells #[.string ⟨#[112, 114, 105, 111, 114, 105, 116, 121]⟩, .string ⟨#[109, 97, 120]⟩, .string ⟨#[104, 101, 108, 108, 111]⟩, .string ⟨#[100, 101, 108, 97, 121]⟩, .string ⟨#[104, 111, 108, 100]⟩, .string ⟨#[114, 115, 116, 112]⟩, .string ⟨#[97, 103, 101, 105, 110, 103]⟩, .string ⟨#[112, 111, 114, 116, 32, 112, 114, 105, 111, 114, 105, 116, 121]⟩, .string ⟨#[112, 111, 114, 116, 32, 99, 111, 115, 116]⟩, .string ⟨#[112, 111, 114, 116, 32, 101, 100, 103, 101]⟩, .string ⟨#[112, 111, 114, 116, 32, 97, 117, 116, 111]⟩, .string ⟨#[112, 111, 114, 116, 32, 108, 105, 110, 107]⟩, .string ⟨#[102, 105, 120]⟩, .string ⟨#[102, 111, 114, 103, 101, 116]⟩, .string ⟨#[112, 111, 114, 116, 32, 99, 104, 101, 99, 107]⟩] 9)).cell? ⟨w.heap.size, k, none⟩ = some (strV (hdT k)) := fun k hk => by
  rw [World.cell?_alloc_at _ _ _ _ rfl]
  match k, hk with
  | 0, _ => rfl
  | 1, _ => rfl
  | 2, _ => rfl
  | 3, _ => rfl
  | 4, _ => rfl
  | 5, _ => rfl
  | 6, _ => rfl
  | 7, _ => rfl
  | 8, _ => rfl
  | 9, _ => rfl
  | 10, _ => rfl
  | 11, _ => rfl
  | 12, _ => rfl
  | 13, _ => rfl
  | 14, _ => rfl
set_option maxRecDepth 20000 in
theorem form_cells (w : World) : ∀ k : Nat, k < 15 → (w.alloc (.cells #[.string ⟨#[110]⟩, .string ⟨#[110]⟩, .string ⟨#[110]⟩, .string ⟨#[110]⟩, .string ⟨#[110]⟩, .string ⟨#[111]⟩, .string ⟨#[110]⟩, .string ⟨#[112, 110]⟩, .string ⟨#[112, 110]⟩, .string ⟨#[112, 111]⟩, .string ⟨#[112, 111]⟩, .string ⟨#[112, 108]⟩, .string ⟨#[109, 110]⟩, .string ⟨#[109]⟩, .string ⟨#[112]⟩] 9)).cell? ⟨w.heap.size, k, none⟩ = some (strV (fm k)) := fun k hk => by
  rw [World.cell?_alloc_at _ _ _ _ rfl]
  match k, hk with
  | 0, _ => rfl
  | 1, _ => rfl
  | 2, _ => rfl
  | 3, _ => rfl
  | 4, _ => rfl
  | 5, _ => rfl
  | 6, _ => rfl
  | 7, _ => rfl
  | 8, _ => rfl
  | 9, _ => rfl
  | 10, _ => rfl
  | 11, _ => rfl
  | 12, _ => rfl
  | 13, _ => rfl
  | 14, _ => rfl
set_option maxRecDepth 20000 in
/-- What its other words are. -/
theorem form_any (k : Nat) (hk : k < 15) (w : World) : Calls Tryz.prog 17 #[.int .i64 k] w fun e w' => e = .returned (strV (fm k)) ∧ Below w.heap.size w w' := by
  have hc := form_cells w k hk
  have b0 := Lib.hid (box_below w (.cells #[.string ⟨#[110]⟩, .string ⟨#[110]⟩, .string ⟨#[110]⟩, .string ⟨#[110]⟩, .string ⟨#[110]⟩, .string ⟨#[111]⟩, .string ⟨#[110]⟩, .string ⟨#[112, 110]⟩, .string ⟨#[112, 110]⟩, .string ⟨#[112, 111]⟩, .string ⟨#[112, 111]⟩, .string ⟨#[112, 108]⟩, .string ⟨#[109, 110]⟩, .string ⟨#[109]⟩, .string ⟨#[112]⟩] 9))
  have hi := idx41 w.heap.size 15 15 k hk
  go_enter Tryz.func17, Tryz.ntmps17
  go_wp2
  go_ret
  exact ⟨rfl, b0.out⟩

theorem digit_cut : ∀ d : Fin 10, ((⟨#[48, 49, 50, 51, 52, 53, 54, 55, 56, 57]⟩ : ByteArray).extract d.val (d.val + 1)).data.toList = [UInt8.ofNat (48 + d.val)] := by decide +kernel
theorem digit_ex (n : Nat) : (⟨#[48, 49, 50, 51, 52, 53, 54, 55, 56, 57]⟩ : ByteArray).extract (n % 10) (n % 10 + 1) = ⟨⟨[UInt8.ofNat (48 + n % 10)]⟩⟩ :=
  ByteArray.ext (Array.toList_inj.1 (digit_cut ⟨n % 10, by omega⟩))
/-- The first k figures. -/
theorem vf_take {l : List UInt8} {k : Nat} {c : UInt8} (h : l[k]? = some c) : vf 0 (l.take (k + 1)) = 10 * vf 0 (l.take k) + (c.toNat - 48) := by
  rw [List.take_add_one, h]; simp [vf_snoc]
theorem vf_bound : ∀ (l : List UInt8), (∀ c ∈ l, fig c) → ∀ a, vf a l < (a + 1) * 10 ^ l.length
  | [], _, a => by simp [vf]
  | c :: l, h, a => by
    have hc := h c (by simp)
    have ih := vf_bound l (fun d hd => h d (by simp [hd])) (10 * a + (c.toNat - 48))
    unfold fig at hc
    have h1 : (10 * a + (c.toNat - 48) + 1) * 10 ^ l.length ≤ (a + 1) * 10 * 10 ^ l.length := Nat.mul_le_mul_right _ (by omega)
    show vf (10 * a + (c.toNat - 48)) l < _
    rw [List.length_cons, Nat.pow_succ, Nat.mul_comm (10 ^ l.length) 10, ← Nat.mul_assoc]
    omega
/-- What the reference's number answers. -/
def numI (s : List UInt8) : Int := match num s with | some n => n | none => -1
theorem numI_not {s : List UInt8} (h : num s = none) : numI s = -1 := by unfold numI; rw [h]
theorem numI_some {s : List UInt8} {n : Nat} (h : num s = some n) : numI s = n := by unfold numI; rw [h]
theorem lat {s : List UInt8} {j : Nat} {c : UInt8} (h : s[j]? = some c) (w : World) : (Instr.index 9 (strV s) (.int .i64 j)).run Tryz.prog w = .ok (.int .u8 (c.toNat : Nat)) w := by
  have hl : j < s.length := (List.getElem?_eq_some_iff.1 h).1
  have := str_index ⟨⟨s⟩⟩ j hl w
  rw [this]
  have e : bt ⟨⟨s⟩⟩ j = c.toNat := by
    show (s.getD j 0).toNat = _
    rw [List.getD_eq_getElem?_getD, h]; rfl
  rw [e]
end Go.Proofs.YtlmdpaemhjcmbaaGreatDoor.Cd

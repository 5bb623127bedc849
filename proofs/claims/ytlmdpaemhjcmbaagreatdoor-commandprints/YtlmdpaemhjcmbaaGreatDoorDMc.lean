/- Commands and their texts, as lists of bytes: what parts a form has, what a word says, what a command is. -/
import Derived.Test.YtlmdpaemhjcmbaaGreatDoorDMa
import Derived.Test.YtlmdpaemhjcmbaaGreatDoorDMb
import Derived.Test.YtlmdpaemhjcmbaaGreatDoorDK
namespace Go.Proofs.YtlmdpaemhjcmbaaGreatDoor.Cd
open Go.Lib

/-- A command. -/
structure Cm where
  wh : Int
  po : Int
  nn : Int
  on : Bool
  x : Nat → Nat
/-- The one of a kind whose fields are zero. -/
def zc (k : Int) : Cm := ⟨k, 0, 0, false, fun _ => 0⟩
def trim (x : Nat → Nat) : Nat → Nat := fun i => if i < 6 then x i else 0
abbrev tOn : List UInt8 := [111, 110]
abbrev tOff : List UInt8 := [111, 102, 102]
abbrev tAuto : List UInt8 := [97, 117, 116, 111]
abbrev tTwo : List UInt8 := [116, 119, 111]
abbrev tMany : List UInt8 := [109, 97, 110, 121]
def lnk (w : List UInt8) : Option Nat := if w = tAuto then some 0 else if w = tTwo then some 1 else if w = tMany then some 2 else none
def linkT (n : Int) : List UInt8 := if n = 0 then tAuto else if n = 1 then tTwo else if n = 2 then tMany else []
open Classical in
/-- What a word says that stands for a part of a form. -/
noncomputable def tk (p w : List UInt8) : Option (Cm → Cm) :=
  if p = [80] then (num w).map fun (n : Nat) (c : Cm) => { c with po := (n : Int) }
  else if p = [78] then (num w).map fun (n : Nat) (c : Cm) => { c with nn := (n : Int) }
  else if p = [79] then (if w = tOn then some fun c => { c with on := true } else if w = tOff then some fun c => { c with on := false } else none)
  else if p = [76] then (lnk w).map fun (n : Nat) (c : Cm) => { c with nn := (n : Int) }
  else if p = [77] then (if okTxt ⟨⟨w⟩⟩ then some fun c => { c with x := trim (macOf ⟨⟨w⟩⟩) } else none)
  else if w = p then some id else none
/-- The word that stands for a part of a form. -/
def wd (c : Cm) (p : List UInt8) : List UInt8 :=
  if p = [80] then itoa c.po else if p = [78] then itoa c.nn else if p = [79] then (if c.on then tOn else tOff)
  else if p = [76] then linkT c.nn else if p = [77] then txt c.x 6 else p
/-- A kind's first words, and what the others are. -/
def hdT : Nat → List UInt8
  | 0 => [112, 114, 105, 111, 114, 105, 116, 121]
  | 1 => [109, 97, 120]
  | 2 => [104, 101, 108, 108, 111]
  | 3 => [100, 101, 108, 97, 121]
  | 4 => [104, 111, 108, 100]
  | 5 => [114, 115, 116, 112]
  | 6 => [97, 103, 101, 105, 110, 103]
  | 7 => [112, 111, 114, 116, 32, 112, 114, 105, 111, 114, 105, 116, 121]
  | 8 => [112, 111, 114, 116, 32, 99, 111, 115, 116]
  | 9 => [112, 111, 114, 116, 32, 101, 100, 103, 101]
  | 10 => [112, 111, 114, 116, 32, 97, 117, 116, 111]
  | 11 => [112, 111, 114, 116, 32, 108, 105, 110, 107]
  | 12 => [102, 105, 120]
  | 13 => [102, 111, 114, 103, 101, 116]
  | 14 => [112, 111, 114, 116, 32, 99, 104, 101, 99, 107]
  | _ => []
def fm : Nat → List UInt8
  | 0 => [110]
  | 1 => [110]
  | 2 => [110]
  | 3 => [110]
  | 4 => [110]
  | 5 => [111]
  | 6 => [110]
  | 7 => [112, 110]
  | 8 => [112, 110]
  | 9 => [112, 111]
  | 10 => [112, 111]
  | 11 => [112, 108]
  | 12 => [109, 110]
  | 13 => [109]
  | 14 => [112]
  | _ => []
def formT : Nat → List UInt8
  | 0 => [112, 114, 105, 111, 114, 105, 116, 121, 32, 78]
  | 1 => [109, 97, 120, 32, 78]
  | 2 => [104, 101, 108, 108, 111, 32, 78]
  | 3 => [100, 101, 108, 97, 121, 32, 78]
  | 4 => [104, 111, 108, 100, 32, 78]
  | 5 => [114, 115, 116, 112, 32, 79]
  | 6 => [97, 103, 101, 105, 110, 103, 32, 78]
  | 7 => [112, 111, 114, 116, 32, 112, 114, 105, 111, 114, 105, 116, 121, 32, 80, 32, 78]
  | 8 => [112, 111, 114, 116, 32, 99, 111, 115, 116, 32, 80, 32, 78]
  | 9 => [112, 111, 114, 116, 32, 101, 100, 103, 101, 32, 80, 32, 79]
  | 10 => [112, 111, 114, 116, 32, 97, 117, 116, 111, 32, 80, 32, 79]
  | 11 => [112, 111, 114, 116, 32, 108, 105, 110, 107, 32, 80, 32, 76]
  | 12 => [102, 105, 120, 32, 77, 32, 78]
  | 13 => [102, 111, 114, 103, 101, 116, 32, 77]
  | 14 => [112, 111, 114, 116, 32, 99, 104, 101, 99, 107, 32, 80]
  | _ => []
def up (b : UInt8) : List UInt8 := [b - 32]
def hd (k : Nat) : List (List UInt8) := sp (hdT k)
def pz (k : Nat) : List (List UInt8) := hd k ++ (fm k).map up
theorem form_parts : ∀ k : Fin 15, sp (formT k.val) = pz k.val := by decide +kernel
theorem hd_long : ∀ k : Fin 15, ∀ p ∈ hd k.val, 2 ≤ p.length ∧ p.length ≤ 13 := by decide +kernel
theorem hd_no : ∀ k : Fin 15, ∀ p ∈ hd k.val, ∀ b ∈ p, b ≠ 32 := by decide +kernel
theorem hd_apart : ∀ j k : Fin 15, j ≠ k → ∃ i : Fin 2, (hd j.val)[i.val]?.isSome = true ∧ (hd k.val)[i.val]?.isSome = true ∧ (hd j.val)[i.val]? ≠ (hd k.val)[i.val]? := by decide +kernel
theorem fm_cases : ∀ k : Fin 15, fm k.val = [110] ∨ fm k.val = [111] ∨ fm k.val = [112, 110] ∨ fm k.val = [112, 111] ∨ fm k.val = [112, 108] ∨ fm k.val = [109, 110] ∨ fm k.val = [109] ∨ fm k.val = [112] := by decide +kernel
theorem hd_len : ∀ k : Fin 15, (hd k.val).length ≤ 2 ∧ 1 ≤ (hd k.val).length := by decide +kernel

/-- A command of the parts, one behind the other. -/
noncomputable def go (c : Cm) : List (List UInt8) → List (List UInt8) → Option Cm
  | [], [] => some c
  | p :: ps, w :: ws => match tk p w with | some f => go (f c) ps ws | none => none
  | _, _ => none
theorem tk_lit {p w : List UInt8} (h : 2 ≤ p.length) : tk p w = if w = p then some id else none := by
  have e : ∀ b : UInt8, p ≠ [b] := fun b hb => by rw [hb] at h; simp at h
  unfold tk; rw [if_neg (e _), if_neg (e _), if_neg (e _), if_neg (e _), if_neg (e _)]
theorem go_lits {fs : List (List UInt8)} {c c' : Cm} : ∀ (ls : List (List UInt8)) (ws : List (List UInt8)), (∀ p ∈ ls, 2 ≤ p.length) → (go c (ls ++ fs) ws = some c' ↔ ∃ r, ws = ls ++ r ∧ go c fs r = some c')
  | [], ws, _ => by simp
  | p :: ps, [], _ => by simp [go]
  | p :: ps, w :: ws, h => by
    have ih := go_lits (fs := fs) (c := c) (c' := c') ps ws fun q hq => h q (by simp [hq])
    show (match tk p w with | some f => go (f c) (ps ++ fs) ws | none => none) = some c' ↔ _
    rw [tk_lit (h p (by simp))]
    by_cases e : w = p
    · subst e; simp [ih]
    · rw [if_neg e]; simp [e]
/-- Is it a command? -/
structure Rt (c : Cm) : Prop where
  w0 : 0 ≤ c.wh
  w1 : c.wh < 15
  x0 : ∀ i, c.x i < 256
  x1 : ∀ i, 6 ≤ i → c.x i = 0
  po : 112 ∉ fm c.wh.toNat → c.po = 0
  nn : 110 ∉ fm c.wh.toNat → 108 ∉ fm c.wh.toNat → c.nn = 0
  on : 111 ∉ fm c.wh.toNat → c.on = false
  mx : 109 ∉ fm c.wh.toNat → ∀ i, c.x i = 0
  po0 : 0 ≤ c.po
  po1 : c.po ≤ 1073741824
  nn0 : 0 ≤ c.nn
  nn1 : c.nn ≤ 1073741824
  lk : 108 ∈ fm c.wh.toNat → c.nn ≤ 2
theorem lnk_some {w : List UInt8} {n : Nat} (h : lnk w = some n) : n ≤ 2 ∧ w = linkT n := by
  unfold lnk at h
  split at h
  · cases h; exact ⟨by omega, by subst_vars; rfl⟩
  · split at h
    · cases h; exact ⟨by omega, by subst_vars; rfl⟩
    · split at h
      · cases h; exact ⟨by omega, by subst_vars; rfl⟩
      · cases h
theorem lnk_link {n : Nat} (h : n ≤ 2) : lnk (linkT n) = some n := by
  match n, h with
  | 0, _ => rfl
  | 1, _ => rfl
  | 2, _ => rfl
theorem txt_trim (x : Nat → Nat) : txt (trim x) 6 = txt x 6 := rfl
theorem trim_lt {x : Nat → Nat} (h : ∀ i, x i < 256) (i : Nat) : trim x i < 256 := by unfold trim; split
                                                                                      · exact h i
                                                                                      · omega
theorem trim_out (x : Nat → Nat) (i : Nat) (h : 6 ≤ i) : trim x i = 0 := by unfold trim; rw [if_neg (by omega)]
theorem mac_word {w : List UInt8} (h : okTxt ⟨⟨w⟩⟩) : txt (trim (macOf ⟨⟨w⟩⟩)) 6 = w := by
  have := txt_of h
  simp only [Value.string.injEq, ByteArray.mk.injEq, Array.mk.injEq] at this
  exact this
theorem mac_back {x : Nat → Nat} (h0 : ∀ i, x i < 256) (h1 : ∀ i, 6 ≤ i → x i = 0) : trim (macOf ⟨⟨txt x 6⟩⟩) = x := by
  funext i
  unfold trim
  by_cases h : i < 6
  · rw [if_pos h, macOf_txt h0 i h]
  · rw [if_neg h, h1 i (by omega)]
theorem tkP (w : List UInt8) : tk [80] w = (num w).map fun (n : Nat) (c : Cm) => { c with po := (n : Int) } := by unfold tk; rw [if_pos rfl]
theorem tkN (w : List UInt8) : tk [78] w = (num w).map fun (n : Nat) (c : Cm) => { c with nn := (n : Int) } := by unfold tk; rw [if_neg (by decide), if_pos rfl]
theorem tkO (w : List UInt8) : tk [79] w = if w = tOn then some fun c => { c with on := true } else if w = tOff then some fun c => { c with on := false } else none := by unfold tk; rw [if_neg (by decide), if_neg (by decide), if_pos rfl]
theorem tkL (w : List UInt8) : tk [76] w = (lnk w).map fun (n : Nat) (c : Cm) => { c with nn := (n : Int) } := by unfold tk; rw [if_neg (by decide), if_neg (by decide), if_neg (by decide), if_pos rfl]
open Classical in
theorem tkM (w : List UInt8) : tk [77] w = if okTxt ⟨⟨w⟩⟩ then some fun c => { c with x := trim (macOf ⟨⟨w⟩⟩) } else none := by unfold tk; rw [if_neg (by decide), if_neg (by decide), if_neg (by decide), if_neg (by decide), if_pos rfl]
theorem wdP (c : Cm) : wd c [80] = itoa c.po := rfl
theorem wdN (c : Cm) : wd c [78] = itoa c.nn := rfl
theorem wdO (c : Cm) : wd c [79] = if c.on then tOn else tOff := rfl
theorem wdL (c : Cm) : wd c [76] = linkT c.nn := rfl
theorem wdM (c : Cm) : wd c [77] = txt c.x 6 := rfl
theorem wd_lit {p : List UInt8} (c : Cm) (h : 2 ≤ p.length) : wd c p = p := by
  have e : ∀ b : UInt8, p ≠ [b] := fun b hb => by rw [hb] at h; simp at h
  unfold wd; rw [if_neg (e _), if_neg (e _), if_neg (e _), if_neg (e _), if_neg (e _)]
theorem ups : up 110 = [78] ∧ up 111 = [79] ∧ up 112 = [80] ∧ up 108 = [76] ∧ up 109 = [77] := by decide
theorem go1 {c c' : Cm} {p : List UInt8} {r : List (List UInt8)} (h : go c [p] r = some c') : ∃ w f, r = [w] ∧ tk p w = some f ∧ f c = c' := by
  match r, h with
  | [], h => simp [go] at h
  | [w], h =>
    cases hk : tk p w with
    | none => simp [go, hk] at h
    | some f => simp [go, hk] at h; exact ⟨w, f, rfl, hk, h⟩
  | w :: v :: r, h =>
    cases hk : tk p w with
    | none => simp [go, hk] at h
    | some f => simp [go, hk] at h
theorem go2 {c c' : Cm} {p q : List UInt8} {r : List (List UInt8)} (h : go c [p, q] r = some c') : ∃ w v f g, r = [w, v] ∧ tk p w = some f ∧ tk q v = some g ∧ g (f c) = c' := by
  match r, h with
  | [], h => simp [go] at h
  | w :: r, h =>
    cases hk : tk p w with
    | none => simp [go, hk] at h
    | some f =>
      have h' : go (f c) [q] r = some c' := by simpa [go, hk] using h
      obtain ⟨v, g, rfl, hg, e⟩ := go1 h'
      exact ⟨w, v, f, g, rfl, hk, hg, e⟩
/-- What each part's word tells of the fields. -/
theorem setP {w : List UInt8} {f : Cm → Cm} (h : tk [80] w = some f) : ∃ n : Nat, n ≤ 1073741824 ∧ w = itoa n ∧ f = fun c => { c with po := n } := by
  rw [tkP] at h
  obtain ⟨n, hn, rfl⟩ := Option.map_eq_some_iff.1 h
  exact ⟨n, (num_some hn).1, by rw [itoa_nat]; exact (num_some hn).2, rfl⟩
theorem setN {w : List UInt8} {f : Cm → Cm} (h : tk [78] w = some f) : ∃ n : Nat, n ≤ 1073741824 ∧ w = itoa n ∧ f = fun c => { c with nn := n } := by
  rw [tkN] at h
  obtain ⟨n, hn, rfl⟩ := Option.map_eq_some_iff.1 h
  exact ⟨n, (num_some hn).1, by rw [itoa_nat]; exact (num_some hn).2, rfl⟩
theorem setO {w : List UInt8} {f : Cm → Cm} (h : tk [79] w = some f) : ∃ b : Bool, w = (if b then tOn else tOff) ∧ f = fun c => { c with on := b } := by
  rw [tkO] at h
  split at h
  · exact ⟨true, by simpa using by assumption, (Option.some.inj h).symm⟩
  · split at h
    · exact ⟨false, by simpa using by assumption, (Option.some.inj h).symm⟩
    · cases h
theorem setL {w : List UInt8} {f : Cm → Cm} (h : tk [76] w = some f) : ∃ n : Nat, n ≤ 2 ∧ w = linkT n ∧ f = fun c => { c with nn := n } := by
  rw [tkL] at h
  obtain ⟨n, hn, rfl⟩ := Option.map_eq_some_iff.1 h
  exact ⟨n, (lnk_some hn).1, (lnk_some hn).2, rfl⟩
theorem setM {w : List UInt8} {f : Cm → Cm} (h : tk [77] w = some f) : ∃ x : Nat → Nat, (∀ i, x i < 256) ∧ (∀ i, 6 ≤ i → x i = 0) ∧ w = txt x 6 ∧ f = fun c => { c with x := x } := by
  rw [tkM] at h
  split at h
  · rename_i hw
    exact ⟨_, trim_lt (macOf_lt _), trim_out _, (mac_word hw).symm, (Option.some.inj h).symm⟩
  · cases h
noncomputable def pAs (k : Nat) (ws : List (List UInt8)) : Option Cm := go (zc k) (pz k) ws
theorem map_hd (k : Fin 15) (c : Cm) : (hd k.val).map (wd c) = hd k.val := by
  conv => rhs; rw [← List.map_id (hd k.val)]
  exact List.map_congr_left fun p hp => wd_lit c (hd_long k p hp).1
set_option maxHeartbeats 1000000 in
theorem pAs_ok {k : Nat} (hk : k < 15) {ws : List (List UInt8)} {c : Cm} (h : pAs k ws = some c) : c.wh = k ∧ Rt c ∧ ws = (pz k).map (wd c) := by
  unfold pAs pz at h
  obtain ⟨r, hr, h'⟩ := (go_lits _ _ fun p hp => (hd_long ⟨k, hk⟩ p hp).1).1 h
  clear h; subst hr; have h := h'; clear h'
  have hm := fun c => map_hd ⟨k, hk⟩ c
  obtain ⟨u1, u2, u3, u4, u5⟩ := ups
  unfold pz
  rw [List.map_append, hm]
  suffices hs : c.wh = k ∧ Rt c ∧ r = ((fm k).map up).map (wd c) by exact ⟨hs.1, hs.2.1, by rw [hs.2.2]⟩
  have K : ((k : Int)).toNat = k := by simp
  rcases fm_cases ⟨k, hk⟩ with e | e | e | e | e | e | e | e <;> simp only at e <;> rw [e] at h <;> simp only [List.map_cons, List.map_nil, u1, u2, u3, u4, u5] at h
  · obtain ⟨w, f, rfl, hf, rfl⟩ := go1 h
    obtain ⟨n, hn, rfl, rfl⟩ := setN hf
    refine ⟨rfl, ?_, by rw [e]; simp [u1, wdN]⟩
    constructor <;> simp [zc, e] <;> omega
  · obtain ⟨w, f, rfl, hf, rfl⟩ := go1 h
    obtain ⟨b, rfl, rfl⟩ := setO hf
    refine ⟨rfl, ?_, by rw [e]; simp [u2, wdO]⟩
    constructor <;> simp [zc, e] <;> omega
  · obtain ⟨w, v, f, g, rfl, hf, hg, rfl⟩ := go2 h
    obtain ⟨n, hn, rfl, rfl⟩ := setP hf
    obtain ⟨m, hm, rfl, rfl⟩ := setN hg
    refine ⟨rfl, ?_, by rw [e]; simp [u1, u3, wdP, wdN]⟩
    constructor <;> simp [zc, e] <;> omega
  · obtain ⟨w, v, f, g, rfl, hf, hg, rfl⟩ := go2 h
    obtain ⟨n, hn, rfl, rfl⟩ := setP hf
    obtain ⟨b, rfl, rfl⟩ := setO hg
    refine ⟨rfl, ?_, by rw [e]; simp [u2, u3, wdP, wdO]⟩
    constructor <;> simp [zc, e] <;> omega
  · obtain ⟨w, v, f, g, rfl, hf, hg, rfl⟩ := go2 h
    obtain ⟨n, hn, rfl, rfl⟩ := setP hf
    obtain ⟨m, hm, rfl, rfl⟩ := setL hg
    refine ⟨rfl, ?_, by rw [e]; simp [u3, u4, wdP, wdL]⟩
    constructor <;> simp [zc, e] <;> omega
  · obtain ⟨w, v, f, g, rfl, hf, hg, rfl⟩ := go2 h
    obtain ⟨x, x0, x1, rfl, rfl⟩ := setM hf
    obtain ⟨m, hm, rfl, rfl⟩ := setN hg
    refine ⟨rfl, ?_, by rw [e]; simp [u1, u5, wdM, wdN]⟩
    constructor <;> simp [zc, e] <;> first | omega | assumption
  · obtain ⟨w, f, rfl, hf, rfl⟩ := go1 h
    obtain ⟨x, x0, x1, rfl, rfl⟩ := setM hf
    refine ⟨rfl, ?_, by rw [e]; simp [u5, wdM]⟩
    constructor <;> simp [zc, e] <;> first | omega | assumption
  · obtain ⟨w, f, rfl, hf, rfl⟩ := go1 h
    obtain ⟨n, hn, rfl, rfl⟩ := setP hf
    refine ⟨rfl, ?_, by rw [e]; simp [u3, wdP]⟩
    constructor <;> simp [zc, e] <;> omega
/-- The words of a command are read as it. -/
theorem getP {c : Cm} (h0 : 0 ≤ c.po) (h1 : c.po ≤ 1073741824) : tk [80] (itoa c.po) = some fun d => { d with po := c.po } := by
  obtain ⟨n, hn⟩ : ∃ n : Nat, c.po = n := ⟨c.po.toNat, by omega⟩
  rw [hn, tkP, itoa_nat, num_dec (by omega)]; rfl
theorem getN {c : Cm} (h0 : 0 ≤ c.nn) (h1 : c.nn ≤ 1073741824) : tk [78] (itoa c.nn) = some fun d => { d with nn := c.nn } := by
  obtain ⟨n, hn⟩ : ∃ n : Nat, c.nn = n := ⟨c.nn.toNat, by omega⟩
  rw [hn, tkN, itoa_nat, num_dec (by omega)]; rfl
theorem getO {c : Cm} : tk [79] (if c.on then tOn else tOff) = some fun d => { d with on := c.on } := by
  rw [tkO]; cases c.on <;> simp
theorem getL {c : Cm} (h0 : 0 ≤ c.nn) (h1 : c.nn ≤ 2) : tk [76] (linkT c.nn) = some fun d => { d with nn := c.nn } := by
  obtain ⟨n, hn⟩ : ∃ n : Nat, c.nn = n := ⟨c.nn.toNat, by omega⟩
  rw [hn, tkL, lnk_link (by omega)]; rfl
theorem getM {c : Cm} (h0 : ∀ i, c.x i < 256) (h1 : ∀ i, 6 ≤ i → c.x i = 0) : tk [77] (txt c.x 6) = some fun d => { d with x := c.x } := by
  rw [tkM, if_pos (okTxt_txt h0), mac_back h0 h1]
theorem Cm.eq {c d : Cm} (h1 : c.wh = d.wh) (h2 : c.po = d.po) (h3 : c.nn = d.nn) (h4 : c.on = d.on) (h5 : c.x = d.x) : c = d := by
  cases c; cases d; simp only at h1 h2 h3 h4 h5; subst h1 h2 h3 h4 h5; rfl
set_option maxHeartbeats 1000000 in
theorem pAs_rt {k : Nat} (hk : k < 15) {c : Cm} (hc : Rt c) (hw : c.wh = k) : pAs k ((pz k).map (wd c)) = some c := by
  unfold pAs pz
  obtain ⟨u1, u2, u3, u4, u5⟩ := ups
  have K : c.wh.toNat = k := by rw [hw]; simp
  obtain ⟨_, _, x0, x1, hpo, hnn, hon, hmx, p0, p1, n0, n1, lk⟩ := hc
  rw [K] at hpo hnn hon hmx lk
  have gP := getP p0 p1
  have gN := getN n0 n1
  have gO := getO (c := c)
  have gM := getM x0 x1
  refine (go_lits _ _ fun p hp => (hd_long ⟨k, hk⟩ p hp).1).2 ⟨((fm k).map up).map (wd c), by rw [List.map_append, map_hd ⟨k, hk⟩ c], ?_⟩
  rcases fm_cases ⟨k, hk⟩ with e | e | e | e | e | e | e | e <;> simp only at e <;> rw [e] at hpo hnn hon hmx lk ⊢ <;> simp only [List.map_cons, List.map_nil, u1, u2, u3, u4, u5, wdP, wdN, wdO, wdL, wdM] <;>
    simp only [go, gP, gN, gO, gM] <;> (try simp only [getL n0 (lk (by simp))]) <;> refine congrArg some (Cm.eq ?_ ?_ ?_ ?_ ?_) <;> simp only [zc] <;> (first | rfl | exact hw.symm | exact (hpo (by decide)).symm | exact (hnn (by decide) (by decide)).symm | exact (hon (by decide)).symm | exact (funext (hmx (by decide))).symm)
end Go.Proofs.YtlmdpaemhjcmbaaGreatDoor.Cd

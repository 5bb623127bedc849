/- Contracts of From, the program's and the reference's, of Superior, and of the laws' own example. -/
import Derived.Test.YtlddmdnlibfndaaD
namespace Go.Proofs.Ytlddmdnlibfndaa
open Go.RowKit Go.Sort

theorem Calls.same_regrown {P : Program} {f : FuncId} {args : Array Value} {w : World} {d : Nat} {os : Array Obj} {v : Value}
    (h : Calls P f args (grow (redrawn w d) os) fun e w' => e = .returned v ∧ grow (redrawn w d) os = w') : Calls P f args (grow (redrawn w d) os) fun e w'' => e = .returned v ∧ ∃ p : Regrown, w'' = grow (redrawn w p.d) p.os :=
  h.mono fun _ _ ⟨he, hb⟩ => ⟨he, ⟨⟨d, os⟩, hb.symm⟩⟩
/-- A variable in every world of a region's class. -/
theorem VarAt.grown {w : World} {b : Nat} {xs : Array Value} {t : TypeId} (h : VarAt w b xs t) (d : Nat) (os : Array Obj) : VarAt (grow (redrawn w d) os) b xs t := h.below (below_regrown w d os) h.lt
/-- Two vectors in boxes. -/
theorem box2 (w : World) (r c b p r' c' b' p' : Int) :
    VarAt ((w.alloc (.cells (vC r c b p) 30)).alloc (.cells (vC r' c' b' p') 30)) w.heap.size (vC r c b p) 30 ∧ VarAt ((w.alloc (.cells (vC r c b p) 30)).alloc (.cells (vC r' c' b' p') 30)) (w.heap.size + 1) (vC r' c' b' p') 30 ∧
    Below w.heap.size w ((w.alloc (.cells (vC r c b p) 30)).alloc (.cells (vC r' c' b' p') 30)) := by
  refine ⟨(var_new w _ _).alloc _, ?_, (box_below _ _).alloc (by simp) _⟩
  have := var_new (w.alloc (.cells (vC r c b p) 30)) (vC r' c' b' p') 30
  rwa [alloc_size] at this

/-- Are two vectors from the same source? -/
def frV (b p b' p' : Nat) : Bool := eqM b b' && (((p % 4096 : Nat) : Int) == ((p' % 4096 : Nat) : Int))

set_option maxHeartbeats 1000000 in
theorem refFrom_any (r c : Int) (b p : Nat) (r' c' : Int) (b' p' : Nat) (hb : b < 18446744073709551616) (hb' : b' < 18446744073709551616) (hp : p < 65536) (hp' : p' < 65536) (w : World) :
    Calls Try.prog 12 #[vV r c b p, vV r' c' b' p'] w fun e w' => e = .returned (.bool (frV b p b' p')) ∧ Below w.heap.size w w' := by
  unfold frV
  have q := mac48 b b'
  have g := g48
  have e1 : (p : Int) % 4096 = ((p % 4096 : Nat) : Int) := by omega
  have e2 : (p' : Int) % 4096 = ((p' % 4096 : Nat) : Int) := by omega
  obtain ⟨hx, hy, hB⟩ := box2 w r c b p r' c' b' p'
  go_enter Try.func12, Try.ntmps12
  go_wp2
  generalize (w.alloc (.cells (vC r c b p) 30)).alloc (.cells (vC r' c' b' p') 30) = W at *
  have a2 := fun d os => (hx.grown d os).v.2.2.1
  have a3 := fun d os => (hx.grown d os).v.2.2.2
  have b2 := fun d os => (hy.grown d os).v.2.2.1
  have b3 := fun d os => (hy.grown d os).v.2.2.2
  have cx : ∀ d os, Calls Try.prog 21 #[.int .u64 b] (grow (redrawn W d) os) fun e w'' => e = .returned (macV (ofN b)) ∧ ∃ p : Regrown, w'' = grow (redrawn W p.d) p.os := fun d os => Calls.regrown_of (refBytes_any b hb _)
  have cy : ∀ d os, Calls Try.prog 21 #[.int .u64 b'] (grow (redrawn W d) os) fun e w'' => e = .returned (macV (ofN b')) ∧ ∃ p : Regrown, w'' = grow (redrawn W p.d) p.os := fun d os => Calls.regrown_of (refBytes_any b' hb' _)
  have HB := Lib.hid hB
  have H1 := Lib.hid e1
  have H2 := Lib.hid e2
  clear hB hx hy hb hb' e1 e2
  generalize ofN b = X at *
  generalize ofN b' = Y at *
  cases hE : eqM b b'
  · rw [hE] at q
    refine wp_region_quiet_below (by kernel_rfl) (by kernel_rfl) ?_
    repeat (go_big_quiet_step (first | with_reducible exact cx _ _ | with_reducible exact cy _ _))
    refine wpQuiet_nil ?_
    intro _ hw'
    obtain ⟨⟨dq, osq⟩, hw''⟩ := hw'
    subst hw''
    go_wp2
    go_ret
    exact ⟨by rw [hE]; rfl, below_next HB.out (below_regrown W dq osq)⟩
  · rw [hE] at q
    refine wp_region_quiet_below (by kernel_rfl) (by kernel_rfl) ?_
    repeat (go_big_quiet_step (first | with_reducible exact cx _ _ | with_reducible exact cy _ _))
    refine wpQuiet_nil ?_
    intro _ hw'
    obtain ⟨⟨dq, osq⟩, hw''⟩ := hw'
    subst hw''
    go_wp2
    go_ret
    exact ⟨ret_bool (by rw [hE, H1.out, H2.out]; rfl), below_next HB.out (below_regrown W dq osq)⟩

/-- Does a vector take the place of another one? -/
def supV (r c b p r' c' b' p' : Nat) : Bool := ltV r c b p r' c' b' p' || (frV b p b' p' && !eqV r c b p r' c' b' p')
end Go.Proofs.Ytlddmdnlibfndaa

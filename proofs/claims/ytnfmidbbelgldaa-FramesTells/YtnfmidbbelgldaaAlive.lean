/-
  tglaw1.alive answers true.
-/
import Derived.Test.YtnfmidbbelgldaaMath
import Derived.Lib.SmallJoins
namespace Go.Proofs.Ytnfmidbbelgldaa
open Go.RowKit
set_option linter.unusedVariables false
set_option linter.unusedSimpArgs false

theorem bytes_v (v u : Value) (ps : List PD) (body : List UInt8) (w : World) (hv : SliceP w.heap.size w v ps) (hu : SliceB w.heap.size w u body) (h : wrongN ps body.length = 0) :
    Calls Try.prog 27 #[.agg #[v, u]] w fun e w' => ∃ ao cap, e = .returned (.slice ao (bytesF ps body).length cap) ∧ w'.ownsRow w.heap.size 5 1 (.slice ao (bytesF ps body).length cap) (bytesF ps body).length (u8s (bytesF ps body)) ∧ Below w.heap.size w w' := by
  obtain ⟨h1, h2, h3⟩ := wrongN_zero ps _ h
  obtain ⟨va, vc, rfl, v1, v2, v3, v4⟩ := hv
  have hu' := hu
  obtain ⟨ua, uc, rfl, -⟩ := hu'
  refine (bytes_any va vc ps ua uc body w v4 hu h1 (by omega) (fun p hp => (right_prop p (h2 p hp)).1)).mono ?_
  rintro e w' ⟨v', rfl, ho, hb⟩
  obtain ⟨ao, cap, rfl, _⟩ := own_shape ho
  exact ⟨ao, cap, rfl, ho, hb⟩
theorem wrong_v (v u : Value) (ps : List PD) (body : List UInt8) (w : World) (hv : SliceP w.heap.size w v ps) (hu : SliceB w.heap.size w u body) (hf : ∀ p ∈ ps, p.fits) :
    Calls Try.prog 23 #[.agg #[v, u]] w fun e w' => e = .returned (.int .i64 (wrongN ps body.length)) ∧ Below w.heap.size w w' := by
  obtain ⟨va, vc, rfl, v1, v2, v3, v4⟩ := hv
  obtain ⟨ua, uc, rfl, u1, u2, u3, u4⟩ := hu
  exact wrong_any va vc ps ua body.length uc w v4 hf (by omega) (by omega)
theorem parse_v (v : Value) (b : List UInt8) (w : World) (hb : SliceB w.heap.size w v b) :
    Calls Try.prog 57 #[v] w fun e w' => ∃ va vc ua uc, e = .returned (.tuple #[.agg #[.slice va (parseF b).2.1.length vc, .slice ua (parseF b).2.2.1.length uc], .int .i64 (parseF b).2.2.2, .int .i64 (parseF b).1]) ∧
      SliceP w'.heap.size w' (.slice va (parseF b).2.1.length vc) (parseF b).2.1 ∧ SliceB w'.heap.size w' (.slice ua (parseF b).2.2.1.length uc) (parseF b).2.2.1 ∧ Below w.heap.size w w' := by
  have hb' := hb
  obtain ⟨a, c, rfl, -⟩ := hb'
  refine (parse_any a c b w hb).mono ?_
  rintro e w' ⟨v, u, rfl, hv, hu, hw⟩
  obtain ⟨va, vc, rfl, -⟩ := id hv
  obtain ⟨ua, uc, rfl, -⟩ := id hu
  exact ⟨va, vc, ua, uc, rfl, hv, hu, hw⟩

def p0 : PD := ⟨⟨#[97]⟩, 1, -2, ⟨#[]⟩⟩
theorem run_field0 (a b : Option Addr) (n m c d : Nat) (w : World) : (Instr.field 25 (.agg #[.slice a n c, .slice b m d]) 0).run Try.prog w = .ok (.slice a n c) w := by
  unfold Instr.field
  simp [go_sem, Sem.run_bind, asAgg]

/-- Behind the append to what Bytes made. -/
theorem alive_step {X w1 w2 : World} {o : Obj} {v : Value} {n : Nat} {xs : List Value} (hb : Below X.heap.size X w1) (hown : w1.ownsRow X.heap.size 5 1 v n xs) (hg : (w1.alloc o).grownBy w2 v.ownBlock) : Below X.heap.size X w2 := by
  have hz := hb.size
  refine (hb.alloc hz o).trans ⟨hg.os, hg.tape, hg.output, hg.size, fun k hk => hg.block k (by simp; omega) (fun e => ?_)⟩
  have := (hown.lt k e.symm).1
  omega

theorem blk_cells {X w' : World} {a b : Value} {g : Nat} (hg : g = X.heap.size) (hb : Below (X.alloc (.cells #[a, b] 25)).heap.size (X.alloc (.cells #[a, b] 25)) w') : w'.cell? ⟨g, 0, none⟩ = some a ∧ w'.cell? ⟨g, 1, none⟩ = some b ∧ g < w'.heap.size := by
  subst hg
  refine ⟨(hb.cell (by simp)).trans (by simp), (hb.cell (by simp)).trans (by simp), ?_⟩
  have := hb.size
  simp at this
  omega

end Go.Proofs.Ytnfmidbbelgldaa

/-
  FaceM; JHall: texts laid together.
-/
import Derived.Test.YtkddkpdfeeikhaaJTellsProofM11
import Derived.Test.YtkddkpdfeeikhaaJTellsProofM07
/-
  hall.Make and hall.Drop.
-/
namespace Go.Proofs.Ytkddkpdfeeikhaa
open Go.RowKit
set_option linter.unusedVariables false
set_option linter.unusedSimpArgs false

attribute [local go_sem ↓] Go.wp_at_zero Go.wp_at_succ

/-- Drop, at a place. -/
def dropF (h : HD) (k : Nat) (q : QD) : HD × List ED × Int := (⟨h.queues.eraseIdx k, h.next⟩, [⟨2, q.name, 0, 0, nN⟩], 0)

theorem cellsQ_erase (L : QuL) (k : Nat) (hk : k < L.length) : (cellsQ L).take (k * 3) ++ (cellsQ L).drop ((k + 1) * 3) = cellsQ (L.eraseIdx k) := by
  unfold cellsQ
  rw [flat_take _ 3 (fun _ => rfl) L k (by omega), flat_drop _ 3 (fun _ => rfl) L (k + 1) (by omega), List.eraseIdx_eq_take_drop_succ, List.flatMap_append]

theorem nilQ (S : Nat → Prop) (w : World) : SliceI S w (.slice none 0 0) [] := ⟨[], rfl, SliceV.nil _ _, by simp⟩

theorem row_any' (w : World) (cs : List Value) (t : TypeId) (n g : Nat) (hg : w.heap.size = g) (hn : n ≤ maxLen) : SliceV (fun b => b = g) (w.alloc (.cells cs.toArray t)) (.slice (some ⟨g, 0, none⟩) n n) n cs := by
  subst hg; exact row_any w cs t n hn

end Go.Proofs.Ytkddkpdfeeikhaa

/-
  A hall of one's own that is changed in place: its rows, the boxes that lead to it, and the map of its names. What an entry makes of a hall, plainly.
-/
namespace Go.Proofs.Ytkddkpdfeeikhaa
open Go.RowKit Go.WideMaps Go.Maps
set_option linter.unusedVariables false
set_option linter.unusedSimpArgs false

/-- The item that an entry puts. -/
def ED.item (e : ED) : IT := ⟨e.id, 0, 0, false, 0, e.note⟩
/-- What an entry makes of a hall. -/
def applyF (h : HD) (e : ED) : HD := match h.queues.findIdx? (nameB e.queue) with
  | none => if e.kind = 1 then ⟨h.queues ++ [⟨e.queue, e.n, []⟩], h.next⟩ else h
  | some k => match h.queues[k]? with
    | none => h
    | some q =>
      if e.kind = 2 then ⟨h.queues.eraseIdx k, h.next⟩
      else if e.kind = 3 then ⟨h.queues.set k ⟨q.name, q.limit, q.items ++ [e.item]⟩, max h.next (e.id + 1)⟩
      else if e.kind = 4 then ⟨h.queues.set k ⟨q.name, q.limit, q.items.filter (fun i => !idB e.id i)⟩, h.next⟩
      else h

/-- The blocks of a hall's rows. -/
def Foot (v : Value) (L : QuL) (b : Nat) : Prop := v.ownBlock = some b ∨ ∃ x ∈ L, x.2.ownBlock = some b

/-- The rows of a hall: each one's own, no two in one block; N: the notes' blocks, X: others that no row lies in. -/
structure HR (lo : Nat) (N X : Nat → Prop) (w : World) (v : Value) (L : QuL) : Prop where
  row : w.ownsRow lo 76 3 v L.length (cellsQ L)
  items : ∀ x ∈ L, ∃ LI : ItL, LI.map Prod.fst = x.1.items ∧ w.ownsRow lo 78 7 x.2 LI.length (cellsI LI) ∧ ∀ y ∈ LI, NoteIs N w y.2 y.1.note
  sep : ∀ x ∈ L, ∀ b, x.2.ownBlock = some b → v.ownBlock ≠ some b
  pair : L.Pairwise (fun x y => ∀ b, x.2.ownBlock = some b → y.2.ownBlock ≠ some b)
  off : ∀ b, N b ∨ X b → ¬ Foot v L b
  lt : ∀ b, N b ∨ X b → b < w.heap.size

section
variable {lo : Nat} {N X : Nat → Prop} {w : World} {v : Value} {L : QuL}

theorem HR.foot_lt (H : HR lo N X w v L) {b : Nat} (hb : Foot v L b) : lo ≤ b ∧ b < w.heap.size := by
  rcases hb with h | ⟨x, hx, h⟩
  · exact H.row.lt b h
  · obtain ⟨LI, -, ho, -⟩ := H.items x hx
    exact ho.lt b h

theorem HR.on (H : HR lo N X w v L) {W : World} (hz : w.heap.size ≤ W.heap.size) (hB : ∀ b, N b ∨ Foot v L b → W.heap[b]? = w.heap[b]?) : HR lo N X W v L where
  row := own_same H.row fun b e => hB b (.inr (.inl e))
  items := fun x hx => by
    obtain ⟨LI, e, ho, hn⟩ := H.items x hx
    exact ⟨LI, e, own_same ho fun b e => hB b (.inr (.inr ⟨x, hx, e⟩)), fun y hy => (hn y hy).sub fun b hb => ⟨hb, hB b (.inl hb)⟩⟩
  sep := H.sep
  pair := H.pair
  off := H.off
  lt := fun b hb => Nat.lt_of_lt_of_le (H.lt b hb) hz

theorem HR.below (H : HR lo N X w v L) {W : World} (hb : Below w.heap.size w W) : HR lo N X W v L :=
  H.on hb.size fun b h => hb.block b (by
    rcases h with h | h
    · exact H.lt b (.inl h)
    · exact (H.foot_lt h).2)

/-- More blocks that no row lies in. -/
theorem HR.more (H : HR lo N X w v L) {N' X' : Nat → Prop} (hN : ∀ b, N b → N' b) (hX : ∀ b, N' b ∨ X' b → (N b ∨ X b) ∨ (b < w.heap.size ∧ ¬ Foot v L b)) : HR lo N' X' w v L where
  row := H.row
  items := fun x hx => by
    obtain ⟨LI, e, ho, hn⟩ := H.items x hx
    exact ⟨LI, e, ho, fun y hy => (hn y hy).sub fun b hb => ⟨hN b hb, rfl⟩⟩
  sep := H.sep
  pair := H.pair
  off := fun b hb => (hX b hb).elim (H.off b) (·.2)
  lt := fun b hb => (hX b hb).elim (H.lt b) (·.1)

/-- A queue is made. -/
theorem HR.make (H : HR lo N X w v L) {w' : World} {v' : Value} {q : QD} (hq : q.items = []) (ho : w'.ownsRow lo 76 3 v' (L.length + 1) (cellsQ L ++ q.cells (.slice none 0 0))) (hg : w.grownBy w' v.ownBlock) (hat : ∀ b, v'.ownBlock = some b → v.ownBlock = some b ∨ w.heap.size ≤ b) : HR lo N X w' v' (L ++ [(q, .slice none 0 0)]) := by
  have hx2 : ∀ x ∈ L ++ [(q, Value.slice none 0 0)], x ∈ L ∨ x = (q, .slice none 0 0) := fun x hx => by simpa using hx
  have hfoot : ∀ b, Foot v' (L ++ [(q, .slice none 0 0)]) b → Foot v L b ∨ w.heap.size ≤ b := fun b hb => by
    rcases hb with h | ⟨x, hx, h⟩
    · rcases hat b h with h | h
      · exact .inl (.inl h)
      · exact .inr h
    · rcases hx2 x hx with hx | rfl
      · exact .inl (.inr ⟨x, hx, h⟩)
      · cases h
  refine ⟨?_, fun x hx => ?_, fun x hx b hb => ?_, ?_, fun b hb hf => ?_, fun b hb => Nat.lt_of_lt_of_le (H.lt b hb) hg.size⟩
  · rw [List.length_append, cellsQ_append]
    simpa [cellsQ] using ho
  · rcases hx2 x hx with hx | rfl
    · obtain ⟨LI, e, ho', hn⟩ := H.items x hx
      refine ⟨LI, e, own_same ho' fun b e => hg.block b (ho'.lt b e).2 (fun h => H.sep x hx b e h.symm), fun y hy => (hn y hy).sub fun b hb => ⟨hb, hg.block b (H.lt b (.inl hb)) (fun h => H.off b (.inl hb) (.inl h.symm))⟩⟩
    · exact ⟨[], by simp [hq], World.ownsRow_nil _ _ _ _, by simp⟩
  · rcases hx2 x hx with hx | rfl
    · intro h
      rcases hat b h with h | h
      · exact H.sep x hx b hb h
      · have := (H.foot_lt (.inr ⟨x, hx, hb⟩)).2
        omega
    · cases hb
  · rw [List.pairwise_append]
    refine ⟨H.pair, by simp, fun x hx y hy b hb => ?_⟩
    simp only [List.mem_singleton] at hy
    subst hy
    intro h
    cases h
  · rcases hfoot b hf with h | h
    · exact H.off b hb h
    · have := H.lt b hb
      omega

/-- A queue is dropped. -/
theorem HR.drop (H : HR lo N X w v L) {w' : World} {v' : Value} {k n : Nat} (hk : k < L.length) (hn : n = (L.eraseIdx k).length) (ho : w'.ownsRow lo 76 3 v' n (cellsQ (L.eraseIdx k))) (hg : w.grownBy w' v.ownBlock) (hat : v'.ownBlock = v.ownBlock) : HR lo N X w' v' (L.eraseIdx k) := by
  have hm : ∀ x ∈ L.eraseIdx k, x ∈ L := fun x hx => List.mem_of_mem_eraseIdx hx
  have hfoot : ∀ b, Foot v' (L.eraseIdx k) b → Foot v L b := fun b hb => by
    rcases hb with h | ⟨x, hx, h⟩
    · exact .inl (hat ▸ h)
    · exact .inr ⟨x, hm x hx, h⟩
  refine ⟨hn ▸ ho, fun x hx => ?_, fun x hx b hb => ?_, ?_, fun b hb hf => H.off b hb (hfoot b hf), fun b hb => Nat.lt_of_lt_of_le (H.lt b hb) hg.size⟩
  · obtain ⟨LI, e, ho', hn⟩ := H.items x (hm x hx)
    exact ⟨LI, e, own_same ho' fun b e => hg.block b (ho'.lt b e).2 (fun h => H.sep x (hm x hx) b e h.symm), fun y hy => (hn y hy).sub fun b hb => ⟨hb, hg.block b (H.lt b (.inl hb)) (fun h => H.off b (.inl hb) (.inl h.symm))⟩⟩
  · rw [hat]
    exact H.sep x (hm x hx) b hb
  · exact H.pair.sublist (List.eraseIdx_sublist _ _)

/-- The items of a queue are others now; the queue's cell tells of them. -/
theorem HR.item {g n cap : Nat} (H : HR lo N X w (.slice (some ⟨g, 0, none⟩) n cap) L) (hn : n = L.length) {k : Nat} (hk : k < L.length) {w1 : World} {u : Value} {LI : ItL} {N' : Nat → Prop} (its : List IT) (hL : LI.map Prod.fst = its)
    (ho : w1.ownsRow lo 78 7 u LI.length (cellsI LI)) (hno : ∀ y ∈ LI, NoteIs N' w1 y.2 y.1.note) (hg : w.grownBy w1 L[k].2.ownBlock) (hat : ∀ b, u.ownBlock = some b → L[k].2.ownBlock = some b ∨ w.heap.size ≤ b)
    (hN : ∀ b, N b → N' b) (hN' : ∀ b, N' b → N b ∨ (w.heap.size ≤ b ∧ b < w1.heap.size ∧ u.ownBlock ≠ some b)) :
    HR lo N' X (w1.setCell ⟨g, k * 3 + 2, none⟩ u) (.slice (some ⟨g, 0, none⟩) n cap) (L.set k (⟨L[k].1.name, L[k].1.limit, its⟩, u)) := by
  have hgown : (Value.slice (some ⟨g, 0, none⟩) n cap).ownBlock = some g := rfl
  have hgl := H.foot_lt (b := g) (.inl rfl)
  have hkm : L[k] ∈ L := List.getElem_mem hk
  have hgk : L[k].2.ownBlock ≠ some g := fun h => H.sep _ hkm g h rfl
  have hug : u.ownBlock ≠ some g := fun h => by
    rcases hat g h with h | h
    · exact hgk h
    · omega
  have far : ∀ b, b ≠ g → (w1.setCell ⟨g, k * 3 + 2, none⟩ u).heap[b]? = w1.heap[b]? := fun b hb => Below.heap_setCell _ _ _ _ hb
  have old : ∀ b, b < w.heap.size → L[k].2.ownBlock ≠ some b → w1.heap[b]? = w.heap[b]? := fun b h1 h2 => hg.block b h1 (fun e => h2 e.symm)
  have hoth : ∀ j (hj : j < L.length), j ≠ k → ∀ b, L[j].2.ownBlock = some b → L[k].2.ownBlock ≠ some b := fun j hj hjk b hb hb2 => by
    have hp := List.pairwise_iff_getElem.1 H.pair
    rcases Nat.lt_or_gt_of_ne hjk with h | h
    · exact hp j k hj hk h b hb hb2
    · exact hp k j hk hj h b hb2 hb
  have hset : ∀ x ∈ L.set k (⟨L[k].1.name, L[k].1.limit, its⟩, u), (∃ j, ∃ hj : j < L.length, j ≠ k ∧ x = L[j]) ∨ x = (⟨L[k].1.name, L[k].1.limit, its⟩, u) := fun x hx => by
    rw [List.mem_iff_getElem] at hx
    obtain ⟨j, hj, rfl⟩ := hx
    rw [List.length_set] at hj
    by_cases e : j = k
    · subst e; right; simp
    · exact .inl ⟨j, hj, e, by rw [List.getElem_set_ne (fun h => e h.symm)]⟩
  have hfoot : ∀ b, Foot (.slice (some ⟨g, 0, none⟩) n cap) (L.set k (⟨L[k].1.name, L[k].1.limit, its⟩, u)) b → Foot (.slice (some ⟨g, 0, none⟩) n cap) L b ∨ (w.heap.size ≤ b ∧ u.ownBlock = some b) := fun b hb => by
    rcases hb with h | ⟨x, hx, h⟩
    · exact .inl (.inl h)
    · rcases hset x hx with ⟨j, hj, _, rfl⟩ | rfl
      · exact .inl (.inr ⟨_, List.getElem_mem hj, h⟩)
      · rcases hat b h with h2 | h2
        · exact .inl (.inr ⟨_, hkm, h2⟩)
        · exact .inr ⟨h2, h⟩
  refine ⟨?_, fun x hx => ?_, fun x hx b hb => ?_, ?_, fun b hb hf => ?_, fun b hb => ?_⟩
  · have h1 : w1.ownsRow lo 76 3 (.slice (some ⟨g, 0, none⟩) n cap) n (cellsQ L) := by
      have := H.row
      rw [← hn] at this
      exact own_same this fun b e => old b (by have := this.lt b e; omega) (fun h => H.sep _ hkm b h e)
    rw [List.length_set, ← hn]
    have h2 := (h1.stored (k * 3 + 2) u).1
    have e : cellsQ (L.set k (⟨L[k].1.name, L[k].1.limit, its⟩, u)) = (cellsQ L).set (k * 3 + 2) u := by
      rw [cellsQ_set L k hk]
      have e0 : (cellsQ L)[k * 3]? = some (.string L[k].1.name) := by have := cellsQ_at L k 0 hk (by omega); simpa [QD.cells] using this
      have e1 : (cellsQ L)[k * 3 + 1]? = some (.int .i64 L[k].1.limit) := by have := cellsQ_at L k 1 hk (by omega); simpa [QD.cells] using this
      congr 1
      have s0 : (cellsQ L).set (k * 3) (.string L[k].1.name) = cellsQ L := by
        obtain ⟨hh, e0⟩ := List.getElem?_eq_some_iff.1 e0
        rw [← e0, List.set_getElem_self]
      have s1 : (cellsQ L).set (k * 3 + 1) (.int .i64 L[k].1.limit) = cellsQ L := by
        obtain ⟨hh, e1⟩ := List.getElem?_eq_some_iff.1 e1
        rw [← e1, List.set_getElem_self]
      show ((cellsQ L).set (k * 3) (.string L[k].1.name)).set (k * 3 + 1) (.int .i64 L[k].1.limit) = cellsQ L
      rw [s0, s1]
    rw [e]
    exact h2
  · rcases hset x hx with ⟨j, hj, hjk, rfl⟩ | rfl
    · obtain ⟨LJ, e, ho', hn'⟩ := H.items _ (List.getElem_mem hj)
      refine ⟨LJ, e, own_same ho' fun b e => ?_, fun y hy => (hn' y hy).sub fun b hb => ⟨hN b hb, ?_⟩⟩
      · rw [far b (fun h => H.sep _ (List.getElem_mem hj) b e (by rw [h]; rfl)), old b (ho'.lt b e).2 (hoth j hj hjk b e)]
      · have h1 := H.off b (.inl hb)
        rw [far b (fun h => h1 (.inl (by rw [h]; rfl))), old b (H.lt b (.inl hb)) (fun h => h1 (.inr ⟨_, hkm, h⟩))]
    · refine ⟨LI, hL, own_far ho (fun h => hug h) u, fun y hy => (hno y hy).sub fun b hb => ⟨hb, far b fun h => ?_⟩⟩
      rcases hN' b hb with h2 | h2
      · exact H.off b (.inl h2) (.inl (by rw [h]; rfl))
      · omega
  · rcases hset x hx with ⟨j, hj, hjk, rfl⟩ | rfl
    · exact H.sep _ (List.getElem_mem hj) b hb
    · intro h
      rw [hgown] at h
      exact hug (by rw [hb, h])
  · rw [List.pairwise_iff_getElem]
    intro i j hi hj hij b hb
    have hi' : i < L.length := by simpa using hi
    have hj' : j < L.length := by simpa using hj
    have hp := List.pairwise_iff_getElem.1 H.pair
    by_cases ei : i = k
    · subst ei
      have ej : j ≠ i := by omega
      rw [List.getElem_set_self] at hb
      rw [List.getElem_set_ne (by omega)]
      intro h
      rcases hat b hb with h2 | h2
      · exact hoth j hj' ej b h h2
      · have := (H.foot_lt (.inr ⟨_, List.getElem_mem hj', h⟩)).2
        omega
    · rw [List.getElem_set_ne (fun h => ei h.symm)] at hb
      by_cases ej : j = k
      · subst ej
        rw [List.getElem_set_self]
        intro h
        rcases hat b h with h2 | h2
        · exact hoth i hi' ei b hb h2
        · have := (H.foot_lt (.inr ⟨_, List.getElem_mem hi', hb⟩)).2
          omega
      · rw [List.getElem_set_ne (fun h => ej h.symm)]
        exact hp i j hi' hj' hij b hb
  · have hlt : N b ∨ X b → b < w.heap.size := H.lt b
    rcases hfoot b hf with h | ⟨h, h2⟩
    · rcases hb with hb | hb
      · rcases hN' b hb with h3 | h3
        · exact H.off b (.inl h3) h
        · have := (H.foot_lt h).2
          omega
      · exact H.off b (.inr hb) h
    · rcases hb with hb | hb
      · rcases hN' b hb with h3 | h3
        · have := hlt (.inl h3); omega
        · exact h3.2.2 h2
      · have := hlt (.inr hb); omega
  · have hz := hg.size
    have : b < w1.heap.size := by
      rcases hb with hb | hb
      · rcases hN' b hb with h3 | h3
        · have := H.lt b (.inl h3); omega
        · exact h3.2.1
      · have := H.lt b (.inr hb); omega
    simpa using this
end

/-- The boxes that lead to a hall: the hall's own, the one that holds its place, the one that holds the map, the map. -/
structure JH (lo : Nat) (N : Nat → Prop) (hb xb pb mb : Nat) (w : World) (v : Value) (L : QuL) (next : Int) : Prop where
  rows : HR lo N (fun b => b = hb ∨ b = xb ∨ b = pb ∨ b = mb) w v L
  box : Blk w hb [v, .int .i64 next]
  xbox : Blk w xb [.pointer (some ⟨hb, 0, none⟩)]
  pbox : Blk w pb [.map (some mb)]
  map : ∃ D : DataW Unit, w.ownsMap Try.prog 9 (plainElem Try.prog 3) mb L.length D ∧ PM D 0 (L.map Prod.fst)
  ne : hb ≠ xb ∧ hb ≠ pb ∧ hb ≠ mb ∧ xb ≠ pb ∧ xb ≠ mb ∧ pb ≠ mb
  los : lo ≤ hb ∧ lo ≤ xb ∧ lo ≤ pb ∧ lo ≤ mb
  note : ∀ b, N b → ¬ (b = hb ∨ b = xb ∨ b = pb ∨ b = mb)

section
variable {lo : Nat} {N : Nat → Prop} {hb xb pb mb : Nat} {w : World} {v : Value} {L : QuL} {next : Int}

theorem JH.on (H : JH lo N hb xb pb mb w v L next) {W : World} (hz : w.heap.size ≤ W.heap.size) (hB : ∀ b, b < w.heap.size → N b ∨ Foot v L b ∨ (b = hb ∨ b = xb ∨ b = pb ∨ b = mb) → W.heap[b]? = w.heap[b]?) : JH lo N hb xb pb mb W v L next := by
  obtain ⟨D, hm, hp⟩ := H.map
  refine ⟨H.rows.on hz fun b hb => ?_, H.box.same (hB hb H.box.lt (.inr (.inr (.inl rfl)))), H.xbox.same (hB xb H.xbox.lt (.inr (.inr (.inr (.inl rfl))))), H.pbox.same (hB pb H.pbox.lt (.inr (.inr (.inr (.inr (.inl rfl)))))), ⟨D, ?_, hp⟩, H.ne, H.los, H.note⟩
  · rcases hb with h | h
    · exact hB b (H.rows.lt b (.inl h)) (.inl h)
    · exact hB b (H.rows.foot_lt h).2 (.inr (.inl h))
  · have hl := hm.lt
    obtain ⟨es, clock, h1, h2⟩ := hm
    exact ⟨es, clock, by rw [hB mb hl (.inr (.inr (.inr (.inr (.inr rfl)))))]; exact h1, h2⟩

theorem JH.below (H : JH lo N hb xb pb mb w v L next) {W : World} (hB : Below w.heap.size w W) : JH lo N hb xb pb mb W v L next :=
  H.on hB.size fun b h _ => hB.block b h
end
end Go.Proofs.Ytkddkpdfeeikhaa

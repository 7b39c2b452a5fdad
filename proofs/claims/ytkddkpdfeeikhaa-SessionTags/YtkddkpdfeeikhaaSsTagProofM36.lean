/-
  JHall; JStep; JPut: texts laid together.
-/
import Derived.Test.YtkddkpdfeeikhaaSsTagProofM35
import Derived.Test.YtkddkpdfeeikhaaFaceM
/-
  A hall of one's own that is changed in place: its rows, the boxes that lead to it, and the map of its names. What an entry makes of a hall, plainly.
-/
namespace Go.Proofs.Ytkddkpdfeeikhaa
open Go.RowKit Go.WideMaps Go.Maps
set_option linter.unusedVariables false
set_option linter.unusedSimpArgs false

/-- The item that an entry puts. -/
def ED.item (e : ED) : IT := ⟨e.id, 0, 0, false, 0, e.note⟩
/-- What an entry makes of a hall. -/
def applyF (h : HD) (e : ED) : HD := match h.queues.findIdx? (nameB e.queue) with
  | none => if e.kind = 1 then ⟨h.queues ++ [⟨e.queue, e.n, []⟩], h.next⟩ else h
  | some k => match h.queues[k]? with
    | none => h
    | some q =>
      if e.kind = 2 then ⟨h.queues.eraseIdx k, h.next⟩
      else if e.kind = 3 then ⟨h.queues.set k ⟨q.name, q.limit, q.items ++ [e.item]⟩, max h.next (e.id + 1)⟩
      else if e.kind = 4 then ⟨h.queues.set k ⟨q.name, q.limit, q.items.filter (fun i => !idB e.id i)⟩, h.next⟩
      else h

/-- The blocks of a hall's rows. -/
def Foot (v : Value) (L : QuL) (b : Nat) : Prop := v.ownBlock = some b ∨ ∃ x ∈ L, x.2.ownBlock = some b

/-- The rows of a hall: each one's own, no two in one block; N: the notes' blocks, X: others that no row lies in. -/
structure HR (lo : Nat) (N X : Nat → Prop) (w : World) (v : Value) (L : QuL) : Prop where
  row : w.ownsRow lo 76 3 v L.length (cellsQ L)
  items : ∀ x ∈ L, ∃ LI : ItL, LI.map Prod.fst = x.1.items ∧ w.ownsRow lo 78 7 x.2 LI.length (cellsI LI) ∧ ∀ y ∈ LI, NoteIs N w y.2 y.1.note
  sep : ∀ x ∈ L, ∀ b, x.2.ownBlock = some b → v.ownBlock ≠ some b
  pair : L.Pairwise (fun x y => ∀ b, x.2.ownBlock = some b → y.2.ownBlock ≠ some b)
  off : ∀ b, N b ∨ X b → ¬ Foot v L b
  lt : ∀ b, N b ∨ X b → b < w.heap.size

section
variable {lo : Nat} {N X : Nat → Prop} {w : World} {v : Value} {L : QuL}

theorem HR.foot_lt (H : HR lo N X w v L) {b : Nat} (hb : Foot v L b) : lo ≤ b ∧ b < w.heap.size := by
  rcases hb with h | ⟨x, hx, h⟩
  · exact H.row.lt b h
  · obtain ⟨LI, -, ho, -⟩ := H.items x hx
    exact ho.lt b h

theorem HR.on (H : HR lo N X w v L) {W : World} (hz : w.heap.size ≤ W.heap.size) (hB : ∀ b, N b ∨ Foot v L b → W.heap[b]? = w.heap[b]?) : HR lo N X W v L where
  row := own_same H.row fun b e => hB b (.inr (.inl e))
  items := fun x hx => by
    obtain ⟨LI, e, ho, hn⟩ := H.items x hx
    exact ⟨LI, e, own_same ho fun b e => hB b (.inr (.inr ⟨x, hx, e⟩)), fun y hy => (hn y hy).sub fun b hb => ⟨hb, hB b (.inl hb)⟩⟩
  sep := H.sep
  pair := H.pair
  off := H.off
  lt := fun b hb => Nat.lt_of_lt_of_le (H.lt b hb) hz

theorem HR.below (H : HR lo N X w v L) {W : World} (hb : Below w.heap.size w W) : HR lo N X W v L :=
  H.on hb.size fun b h => hb.block b (by
    rcases h with h | h
    · exact H.lt b (.inl h)
    · exact (H.foot_lt h).2)

/-- More blocks that no row lies in. -/
theorem HR.more (H : HR lo N X w v L) {N' X' : Nat → Prop} (hN : ∀ b, N b → N' b) (hX : ∀ b, N' b ∨ X' b → (N b ∨ X b) ∨ (b < w.heap.size ∧ ¬ Foot v L b)) : HR lo N' X' w v L where
  row := H.row
  items := fun x hx => by
    obtain ⟨LI, e, ho, hn⟩ := H.items x hx
    exact ⟨LI, e, ho, fun y hy => (hn y hy).sub fun b hb => ⟨hN b hb, rfl⟩⟩
  sep := H.sep
  pair := H.pair
  off := fun b hb => (hX b hb).elim (H.off b) (·.2)
  lt := fun b hb => (hX b hb).elim (H.lt b) (·.1)

/-- A queue is made. -/
theorem HR.make (H : HR lo N X w v L) {w' : World} {v' : Value} {q : QD} (hq : q.items = []) (ho : w'.ownsRow lo 76 3 v' (L.length + 1) (cellsQ L ++ q.cells (.slice none 0 0))) (hg : w.grownBy w' v.ownBlock) (hat : ∀ b, v'.ownBlock = some b → v.ownBlock = some b ∨ w.heap.size ≤ b) : HR lo N X w' v' (L ++ [(q, .slice none 0 0)]) := by
  have hx2 : ∀ x ∈ L ++ [(q, Value.slice none 0 0)], x ∈ L ∨ x = (q, .slice none 0 0) := fun x hx => by simpa using hx
  have hfoot : ∀ b, Foot v' (L ++ [(q, .slice none 0 0)]) b → Foot v L b ∨ w.heap.size ≤ b := fun b hb => by
    rcases hb with h | ⟨x, hx, h⟩
    · rcases hat b h with h | h
      · exact .inl (.inl h)
      · exact .inr h
    · rcases hx2 x hx with hx | rfl
      · exact .inl (.inr ⟨x, hx, h⟩)
      · cases h
  refine ⟨?_, fun x hx => ?_, fun x hx b hb => ?_, ?_, fun b hb hf => ?_, fun b hb => Nat.lt_of_lt_of_le (H.lt b hb) hg.size⟩
  · rw [List.length_append, cellsQ_append]
    simpa [cellsQ] using ho
  · rcases hx2 x hx with hx | rfl
    · obtain ⟨LI, e, ho', hn⟩ := H.items x hx
      refine ⟨LI, e, own_same ho' fun b e => hg.block b (ho'.lt b e).2 (fun h => H.sep x hx b e h.symm), fun y hy => (hn y hy).sub fun b hb => ⟨hb, hg.block b (H.lt b (.inl hb)) (fun h => H.off b (.inl hb) (.inl h.symm))⟩⟩
    · exact ⟨[], by simp [hq], World.ownsRow_nil _ _ _ _, by simp⟩
  · rcases hx2 x hx with hx | rfl
    · intro h
      rcases hat b h with h | h
      · exact H.sep x hx b hb h
      · have := (H.foot_lt (.inr ⟨x, hx, hb⟩)).2
        omega
    · cases hb
  · rw [List.pairwise_append]
    refine ⟨H.pair, by simp, fun x hx y hy b hb => ?_⟩
    simp only [List.mem_singleton] at hy
    subst hy
    intro h
    cases h
  · rcases hfoot b hf with h | h
    · exact H.off b hb h
    · have := H.lt b hb
      omega

/-- A queue is dropped. -/
theorem HR.drop (H : HR lo N X w v L) {w' : World} {v' : Value} {k n : Nat} (hk : k < L.length) (hn : n = (L.eraseIdx k).length) (ho : w'.ownsRow lo 76 3 v' n (cellsQ (L.eraseIdx k))) (hg : w.grownBy w' v.ownBlock) (hat : v'.ownBlock = v.ownBlock) : HR lo N X w' v' (L.eraseIdx k) := by
  have hm : ∀ x ∈ L.eraseIdx k, x ∈ L := fun x hx => List.mem_of_mem_eraseIdx hx
  have hfoot : ∀ b, Foot v' (L.eraseIdx k) b → Foot v L b := fun b hb => by
    rcases hb with h | ⟨x, hx, h⟩
    · exact .inl (hat ▸ h)
    · exact .inr ⟨x, hm x hx, h⟩
  refine ⟨hn ▸ ho, fun x hx => ?_, fun x hx b hb => ?_, ?_, fun b hb hf => H.off b hb (hfoot b hf), fun b hb => Nat.lt_of_lt_of_le (H.lt b hb) hg.size⟩
  · obtain ⟨LI, e, ho', hn⟩ := H.items x (hm x hx)
    exact ⟨LI, e, own_same ho' fun b e => hg.block b (ho'.lt b e).2 (fun h => H.sep x (hm x hx) b e h.symm), fun y hy => (hn y hy).sub fun b hb => ⟨hb, hg.block b (H.lt b (.inl hb)) (fun h => H.off b (.inl hb) (.inl h.symm))⟩⟩
  · rw [hat]
    exact H.sep x (hm x hx) b hb
  · exact H.pair.sublist (List.eraseIdx_sublist _ _)

/-- The items of a queue are others now; the queue's cell tells of them. -/
theorem HR.item {g n cap : Nat} (H : HR lo N X w (.slice (some ⟨g, 0, none⟩) n cap) L) (hn : n = L.length) {k : Nat} (hk : k < L.length) {w1 : World} {u : Value} {LI : ItL} {N' : Nat → Prop} (its : List IT) (hL : LI.map Prod.fst = its)
    (ho : w1.ownsRow lo 78 7 u LI.length (cellsI LI)) (hno : ∀ y ∈ LI, NoteIs N' w1 y.2 y.1.note) (hg : w.grownBy w1 L[k].2.ownBlock) (hat : ∀ b, u.ownBlock = some b → L[k].2.ownBlock = some b ∨ w.heap.size ≤ b)
    (hN : ∀ b, N b → N' b) (hN' : ∀ b, N' b → N b ∨ (w.heap.size ≤ b ∧ b < w1.heap.size ∧ u.ownBlock ≠ some b)) :
    HR lo N' X (w1.setCell ⟨g, k * 3 + 2, none⟩ u) (.slice (some ⟨g, 0, none⟩) n cap) (L.set k (⟨L[k].1.name, L[k].1.limit, its⟩, u)) := by
  have hgown : (Value.slice (some ⟨g, 0, none⟩) n cap).ownBlock = some g := rfl
  have hgl := H.foot_lt (b := g) (.inl rfl)
  have hkm : L[k] ∈ L := List.getElem_mem hk
  have hgk : L[k].2.ownBlock ≠ some g := fun h => H.sep _ hkm g h rfl
  have hug : u.ownBlock ≠ some g := fun h => by
    rcases hat g h with h | h
    · exact hgk h
    · omega
  have far : ∀ b, b ≠ g → (w1.setCell ⟨g, k * 3 + 2, none⟩ u).heap[b]? = w1.heap[b]? := fun b hb => Below.heap_setCell _ _ _ _ hb
  have old : ∀ b, b < w.heap.size → L[k].2.ownBlock ≠ some b → w1.heap[b]? = w.heap[b]? := fun b h1 h2 => hg.block b h1 (fun e => h2 e.symm)
  have hoth : ∀ j (hj : j < L.length), j ≠ k → ∀ b, L[j].2.ownBlock = some b → L[k].2.ownBlock ≠ some b := fun j hj hjk b hb hb2 => by
    have hp := List.pairwise_iff_getElem.1 H.pair
    rcases Nat.lt_or_gt_of_ne hjk with h | h
    · exact hp j k hj hk h b hb hb2
    · exact hp k j hk hj h b hb2 hb
  have hset : ∀ x ∈ L.set k (⟨L[k].1.name, L[k].1.limit, its⟩, u), (∃ j, ∃ hj : j < L.length, j ≠ k ∧ x = L[j]) ∨ x = (⟨L[k].1.name, L[k].1.limit, its⟩, u) := fun x hx => by
    rw [List.mem_iff_getElem] at hx
    obtain ⟨j, hj, rfl⟩ := hx
    rw [List.length_set] at hj
    by_cases e : j = k
    · subst e; right; simp
    · exact .inl ⟨j, hj, e, by rw [List.getElem_set_ne (fun h => e h.symm)]⟩
  have hfoot : ∀ b, Foot (.slice (some ⟨g, 0, none⟩) n cap) (L.set k (⟨L[k].1.name, L[k].1.limit, its⟩, u)) b → Foot (.slice (some ⟨g, 0, none⟩) n cap) L b ∨ (w.heap.size ≤ b ∧ u.ownBlock = some b) := fun b hb => by
    rcases hb with h | ⟨x, hx, h⟩
    · exact .inl (.inl h)
    · rcases hset x hx with ⟨j, hj, _, rfl⟩ | rfl
      · exact .inl (.inr ⟨_, List.getElem_mem hj, h⟩)
      · rcases hat b h with h2 | h2
        · exact .inl (.inr ⟨_, hkm, h2⟩)
        · exact .inr ⟨h2, h⟩
  refine ⟨?_, fun x hx => ?_, fun x hx b hb => ?_, ?_, fun b hb hf => ?_, fun b hb => ?_⟩
  · have h1 : w1.ownsRow lo 76 3 (.slice (some ⟨g, 0, none⟩) n cap) n (cellsQ L) := by
      have := H.row
      rw [← hn] at this
      exact own_same this fun b e => old b (by have := this.lt b e; omega) (fun h => H.sep _ hkm b h e)
    rw [List.length_set, ← hn]
    have h2 := (h1.stored (k * 3 + 2) u).1
    have e : cellsQ (L.set k (⟨L[k].1.name, L[k].1.limit, its⟩, u)) = (cellsQ L).set (k * 3 + 2) u := by
      rw [cellsQ_set L k hk]
      have e0 : (cellsQ L)[k * 3]? = some (.string L[k].1.name) := by have := cellsQ_at L k 0 hk (by omega); simpa [QD.cells] using this
      have e1 : (cellsQ L)[k * 3 + 1]? = some (.int .i64 L[k].1.limit) := by have := cellsQ_at L k 1 hk (by omega); simpa [QD.cells] using this
      congr 1
      have s0 : (cellsQ L).set (k * 3) (.string L[k].1.name) = cellsQ L := by
        obtain ⟨hh, e0⟩ := List.getElem?_eq_some_iff.1 e0
        rw [← e0, List.set_getElem_self]
      have s1 : (cellsQ L).set (k * 3 + 1) (.int .i64 L[k].1.limit) = cellsQ L := by
        obtain ⟨hh, e1⟩ := List.getElem?_eq_some_iff.1 e1
        rw [← e1, List.set_getElem_self]
      show ((cellsQ L).set (k * 3) (.string L[k].1.name)).set (k * 3 + 1) (.int .i64 L[k].1.limit) = cellsQ L
      rw [s0, s1]
    rw [e]
    exact h2
  · rcases hset x hx with ⟨j, hj, hjk, rfl⟩ | rfl
    · obtain ⟨LJ, e, ho', hn'⟩ := H.items _ (List.getElem_mem hj)
      refine ⟨LJ, e, own_same ho' fun b e => ?_, fun y hy => (hn' y hy).sub fun b hb => ⟨hN b hb, ?_⟩⟩
      · rw [far b (fun h => H.sep _ (List.getElem_mem hj) b e (by rw [h]; rfl)), old b (ho'.lt b e).2 (hoth j hj hjk b e)]
      · have h1 := H.off b (.inl hb)
        rw [far b (fun h => h1 (.inl (by rw [h]; rfl))), old b (H.lt b (.inl hb)) (fun h => h1 (.inr ⟨_, hkm, h⟩))]
    · refine ⟨LI, hL, own_far ho (fun h => hug h) u, fun y hy => (hno y hy).sub fun b hb => ⟨hb, far b fun h => ?_⟩⟩
      rcases hN' b hb with h2 | h2
      · exact H.off b (.inl h2) (.inl (by rw [h]; rfl))
      · omega
  · rcases hset x hx with ⟨j, hj, hjk, rfl⟩ | rfl
    · exact H.sep _ (List.getElem_mem hj) b hb
    · intro h
      rw [hgown] at h
      exact hug (by rw [hb, h])
  · rw [List.pairwise_iff_getElem]
    intro i j hi hj hij b hb
    have hi' : i < L.length := by simpa using hi
    have hj' : j < L.length := by simpa using hj
    have hp := List.pairwise_iff_getElem.1 H.pair
    by_cases ei : i = k
    · subst ei
      have ej : j ≠ i := by omega
      rw [List.getElem_set_self] at hb
      rw [List.getElem_set_ne (by omega)]
      intro h
      rcases hat b hb with h2 | h2
      · exact hoth j hj' ej b h h2
      · have := (H.foot_lt (.inr ⟨_, List.getElem_mem hj', h⟩)).2
        omega
    · rw [List.getElem_set_ne (fun h => ei h.symm)] at hb
      by_cases ej : j = k
      · subst ej
        rw [List.getElem_set_self]
        intro h
        rcases hat b h with h2 | h2
        · exact hoth i hi' ei b hb h2
        · have := (H.foot_lt (.inr ⟨_, List.getElem_mem hi', hb⟩)).2
          omega
      · rw [List.getElem_set_ne (fun h => ej h.symm)]
        exact hp i j hi' hj' hij b hb
  · have hlt : N b ∨ X b → b < w.heap.size := H.lt b
    rcases hfoot b hf with h | ⟨h, h2⟩
    · rcases hb with hb | hb
      · rcases hN' b hb with h3 | h3
        · exact H.off b (.inl h3) h
        · have := (H.foot_lt h).2
          omega
      · exact H.off b (.inr hb) h
    · rcases hb with hb | hb
      · rcases hN' b hb with h3 | h3
        · have := hlt (.inl h3); omega
        · exact h3.2.2 h2
      · have := hlt (.inr hb); omega
  · have hz := hg.size
    have : b < w1.heap.size := by
      rcases hb with hb | hb
      · rcases hN' b hb with h3 | h3
        · have := H.lt b (.inl h3); omega
        · exact h3.2.1
      · have := H.lt b (.inr hb); omega
    simpa using this
end

/-- The boxes that lead to a hall: the hall's own, the one that holds its place, the one that holds the map, the map. -/
structure JH (lo : Nat) (N : Nat → Prop) (hb xb pb mb : Nat) (w : World) (v : Value) (L : QuL) (next : Int) : Prop where
  rows : HR lo N (fun b => b = hb ∨ b = xb ∨ b = pb ∨ b = mb) w v L
  box : Blk w hb [v, .int .i64 next]
  xbox : Blk w xb [.pointer (some ⟨hb, 0, none⟩)]
  pbox : Blk w pb [.map (some mb)]
  map : ∃ D : DataW Unit, w.ownsMap Try.prog 9 (plainElem Try.prog 3) mb L.length D ∧ PM D 0 (L.map Prod.fst)
  ne : hb ≠ xb ∧ hb ≠ pb ∧ hb ≠ mb ∧ xb ≠ pb ∧ xb ≠ mb ∧ pb ≠ mb
  los : lo ≤ hb ∧ lo ≤ xb ∧ lo ≤ pb ∧ lo ≤ mb
  note : ∀ b, N b → ¬ (b = hb ∨ b = xb ∨ b = pb ∨ b = mb)

section
variable {lo : Nat} {N : Nat → Prop} {hb xb pb mb : Nat} {w : World} {v : Value} {L : QuL} {next : Int}

theorem JH.on (H : JH lo N hb xb pb mb w v L next) {W : World} (hz : w.heap.size ≤ W.heap.size) (hB : ∀ b, b < w.heap.size → N b ∨ Foot v L b ∨ (b = hb ∨ b = xb ∨ b = pb ∨ b = mb) → W.heap[b]? = w.heap[b]?) : JH lo N hb xb pb mb W v L next := by
  obtain ⟨D, hm, hp⟩ := H.map
  refine ⟨H.rows.on hz fun b hb => ?_, H.box.same (hB hb H.box.lt (.inr (.inr (.inl rfl)))), H.xbox.same (hB xb H.xbox.lt (.inr (.inr (.inr (.inl rfl))))), H.pbox.same (hB pb H.pbox.lt (.inr (.inr (.inr (.inr (.inl rfl)))))), ⟨D, ?_, hp⟩, H.ne, H.los, H.note⟩
  · rcases hb with h | h
    · exact hB b (H.rows.lt b (.inl h)) (.inl h)
    · exact hB b (H.rows.foot_lt h).2 (.inr (.inl h))
  · have hl := hm.lt
    obtain ⟨es, clock, h1, h2⟩ := hm
    exact ⟨es, clock, by rw [hB mb hl (.inr (.inr (.inr (.inr (.inr rfl)))))]; exact h1, h2⟩

theorem JH.below (H : JH lo N hb xb pb mb w v L next) {W : World} (hB : Below w.heap.size w W) : JH lo N hb xb pb mb W v L next :=
  H.on hB.size fun b h _ => hB.block b h
end
end Go.Proofs.Ytkddkpdfeeikhaa

/-
  Steps of a hall in place: an item's row changed, the next number, a queue made, a queue dropped.
-/
namespace Go.Proofs.Ytkddkpdfeeikhaa
open Go.RowKit Go.WideMaps Go.Maps
set_option linter.unusedVariables false
set_option linter.unusedSimpArgs false

/-- What a step leaves: all that the hall does not own stands. -/
structure Kept (lo : Nat) (N : Nat → Prop) (w w' : World) : Prop where
  note : ∀ b, N b → w'.heap[b]? = w.heap[b]?
  bel : Below lo w w'
theorem Kept.refl (lo : Nat) (N : Nat → Prop) (w : World) : Kept lo N w w := ⟨fun _ _ => rfl, Below.refl _ _⟩
theorem Kept.trans {lo : Nat} {N : Nat → Prop} {a b c : World} (h : Kept lo N a b) (k : Kept lo N b c) : Kept lo N a c :=
  ⟨fun x hx => (k.note x hx).trans (h.note x hx), h.bel.trans k.bel⟩
theorem Kept.anti {lo : Nat} {N N' : Nat → Prop} {a b : World} (h : Kept lo N' a b) (hN : ∀ x, N x → N' x) : Kept lo N a b := ⟨fun x hx => h.note x (hN x hx), h.bel⟩

theorem names_set {L : QuL} {k : Nat} (hk : k < L.length) (its : List IT) (u : Value) : ((L.set k (⟨L[k].1.name, L[k].1.limit, its⟩, u)).map Prod.fst).map QD.name = (L.map Prod.fst).map QD.name := by
  rw [List.map_set, List.map_set]
  apply List.ext_getElem?
  intro i
  by_cases e : i = k
  · subst e
    simp [hk]
  · rw [List.getElem?_set_ne (fun h => e h.symm)]

section
variable {lo : Nat} {N : Nat → Prop} {hb xb pb mb : Nat} {w : World} {v : Value} {L : QuL} {next : Int}

theorem JH.lo_le (H : JH lo N hb xb pb mb w v L next) : lo ≤ w.heap.size := by have := H.box.lt; have := H.los.1; omega

/-- The items of a queue are others now. -/
theorem JH.item {g n cap : Nat} (H : JH lo N hb xb pb mb w (.slice (some ⟨g, 0, none⟩) n cap) L next) (hn : n = L.length) {k : Nat} (hk : k < L.length) {w1 : World} {u : Value} {LI : ItL} {N' : Nat → Prop} (its : List IT) (hL : LI.map Prod.fst = its)
    (ho : w1.ownsRow lo 78 7 u LI.length (cellsI LI)) (hno : ∀ y ∈ LI, NoteIs N' w1 y.2 y.1.note) (hg : w.grownBy w1 L[k].2.ownBlock) (hat : ∀ b, u.ownBlock = some b → L[k].2.ownBlock = some b ∨ w.heap.size ≤ b)
    (hN : ∀ b, N b → N' b) (hN' : ∀ b, N' b → N b ∨ (w.heap.size ≤ b ∧ b < w1.heap.size ∧ u.ownBlock ≠ some b)) :
    JH lo N' hb xb pb mb (w1.setCell ⟨g, k * 3 + 2, none⟩ u) (.slice (some ⟨g, 0, none⟩) n cap) (L.set k (⟨L[k].1.name, L[k].1.limit, its⟩, u)) next ∧ Kept lo N w (w1.setCell ⟨g, k * 3 + 2, none⟩ u) := by
  obtain ⟨D, hm, hp⟩ := H.map
  have hkm : L[k] ∈ L := List.getElem_mem hk
  have hgf : Foot (.slice (some ⟨g, 0, none⟩) n cap) L g := .inl rfl
  have far : ∀ b, b ≠ g → (w1.setCell ⟨g, k * 3 + 2, none⟩ u).heap[b]? = w1.heap[b]? := fun b h => Below.heap_setCell _ _ _ _ h
  have old : ∀ b, b < w.heap.size → ¬ Foot (.slice (some ⟨g, 0, none⟩) n cap) L b → (w1.setCell ⟨g, k * 3 + 2, none⟩ u).heap[b]? = w.heap[b]? := fun b h1 h2 => by
    rw [far b (fun e => h2 (by rw [e]; exact hgf)), hg.block b h1 (fun e => h2 (.inr ⟨_, hkm, e.symm⟩))]
  have offX : ∀ b, (b = hb ∨ b = xb ∨ b = pb ∨ b = mb) → (w1.setCell ⟨g, k * 3 + 2, none⟩ u).heap[b]? = w.heap[b]? := fun b h => old b (H.rows.lt b (.inr h)) (H.rows.off b (.inr h))
  refine ⟨⟨H.rows.item hn hk its hL ho hno hg hat hN hN', H.box.same (offX _ (.inl rfl)), H.xbox.same (offX _ (.inr (.inl rfl))), H.pbox.same (offX _ (.inr (.inr (.inl rfl)))), ⟨D, ?_, hp.names (names_set hk its u)⟩, H.ne, H.los, fun b h hx => ?_⟩, ⟨fun b h => old b (H.rows.lt b (.inl h)) (H.rows.off b (.inl h)), ?_⟩⟩
  · rw [List.length_set]
    obtain ⟨es, clock, h1, h2⟩ := hm
    exact ⟨es, clock, by rw [offX _ (.inr (.inr (.inr rfl)))]; exact h1, h2⟩
  · rcases hN' b h with h | h
    · exact H.note b h hx
    · have := H.rows.lt b (.inr hx); omega
  · exact (below_of_grownBy hg H.lo_le (fun j h => (H.rows.foot_lt (.inr ⟨_, hkm, h⟩)).1)).setCell (H.rows.foot_lt hgf).1 _
end
end Go.Proofs.Ytkddkpdfeeikhaa

/-
  journal.putIn puts an entry's item into a queue, in place.
-/
namespace Go.Proofs.Ytkddkpdfeeikhaa
open Go.RowKit Go.WideMaps Go.Maps
set_option linter.unusedVariables false
set_option linter.unusedSimpArgs false

attribute [local go_sem ↓] Go.wp_at_zero Go.wp_at_succ

/-- What a step of a hall in place answers. -/
def StepAns (lo : Nat) (N : Nat → Prop) (hb xb pb : Nat) (w : World) (h : HD) (w' : World) : Prop :=
  ∃ (N' : Nat → Prop) (mb' : Nat) (v' : Value) (L' : QuL), ((∀ b, N b → N' b) ∧ ∀ b, N' b → N b ∨ w.heap.size ≤ b) ∧ L'.map Prod.fst = h.queues ∧ JH lo N' hb xb pb mb' w' v' L' h.next ∧ Kept lo N w w'

theorem StepAns.drew {lo : Nat} {N : Nat → Prop} {hb xb pb : Nat} {w : World} {h : HD} {w' : World} (H : StepAns lo N hb xb pb w h w') : StepAns lo N hb xb pb w h w'.drew := by
  obtain ⟨N', mb', v', L', h1, h2, h3, h4⟩ := H
  exact ⟨N', mb', v', L', h1, h2, h3.on (Nat.le_refl _) (fun _ _ _ => rfl), ⟨h4.note, ⟨h4.bel.os, h4.bel.tape, h4.bel.output, h4.bel.size, h4.bel.block⟩⟩⟩

section
variable {lo : Nat} {N : Nat → Prop} {hb xb pb mb : Nat} {w : World} {L : QuL} {next : Int} {g n cap : Nat}

/-- Behind the append: the queue has one item more. -/
theorem JH.put (H : JH lo N hb xb pb mb w (.slice (some ⟨g, 0, none⟩) n cap) L next) (hn : n = L.length) {k : Nat} (hk : k < L.length) {LI : ItL} (hLI : LI.map Prod.fst = L[k].1.items) (hnotes : ∀ y ∈ LI, NoteIs N w y.2 y.1.note) (hown : w.ownsRow lo 78 7 L[k].2 LI.length (cellsI LI))
    {w2 w3 : World} {p : Value × Value} {nt : ND} (id : Int) (hb2 : Below w.heap.size w w2) (hnt : NoteIs (Made (w.heap.size + 1) w2.heap.size) w2 p nt) {o : Obj} {gg c3 : Nat}
    (ho3 : w3.ownsRow lo 78 7 (.slice (some ⟨gg, 0, none⟩) (LI.length + 1) c3) (LI.length + 1) (cellsI LI ++ (newI id nt).cells p)) (hg3 : (w2.alloc o).grownBy w3 L[k].2.ownBlock) (hat3 : L[k].2.ownBlock = some gg ∨ gg = w2.heap.size + 1) (hlt : gg < w3.heap.size) :
    ∃ N' : Nat → Prop, ((∀ b, N b → N' b) ∧ ∀ b, N' b → N b ∨ w.heap.size ≤ b) ∧ JH lo N' hb xb pb mb (w3.setCell ⟨g, k * 3 + 2, none⟩ (.slice (some ⟨gg, 0, none⟩) (LI.length + 1) c3)) (.slice (some ⟨g, 0, none⟩) n cap) (L.set k (⟨L[k].1.name, L[k].1.limit, L[k].1.items ++ [newI id nt]⟩, .slice (some ⟨gg, 0, none⟩) (LI.length + 1) c3)) next ∧
      Kept lo N w (w3.setCell ⟨g, k * 3 + 2, none⟩ (.slice (some ⟨gg, 0, none⟩) (LI.length + 1) c3)) := by
  have hz2 := hb2.size
  have hz3 : w2.heap.size + 1 ≤ w3.heap.size := by have := hg3.size; simpa using this
  have hog : ∀ b, L[k].2.ownBlock = some b → b < w.heap.size := fun b h => (hown.lt b h).2
  have blk : ∀ b, b < w2.heap.size → L[k].2.ownBlock ≠ some b → w3.heap[b]? = w2.heap[b]? := fun b h1 h2 => by
    rw [hg3.block b (by simp; omega) (fun e => h2 e.symm), Below.heap_alloc _ _ _ h1]
  have hg : w.grownBy w3 L[k].2.ownBlock := by
    refine grownBy_trans (grownBy_of_below hb2) (grownBy_trans (World.grownBy_alloc _ _ _) hg3)
  have hblocks : ∀ b, (Value.slice (some ⟨gg, 0, none⟩) (LI.length + 1) c3).ownBlock = some b → b = gg := fun b h => by simpa [Value.ownBlock] using h.symm
  have key := H.item hn hk (w1 := w3) (u := .slice (some ⟨gg, 0, none⟩) (LI.length + 1) c3) (LI := LI ++ [(newI id nt, p)]) (N' := fun b => N b ∨ (w.heap.size + 1 ≤ b ∧ b < w2.heap.size)) (L[k].1.items ++ [newI id nt]) (by simp [hLI])
    (by rw [List.length_append, cellsI_append]; simpa [cellsI] using ho3)
    (fun y hy => ?_) hg (fun b h => ?_) (fun b h => .inl h) (fun b h => ?_)
  · exact ⟨_, ⟨fun b h => .inl h, fun b h => h.imp (fun h => h) (fun h => by omega)⟩, key⟩
  · rw [List.mem_append, List.mem_singleton] at hy
    rcases hy with hy | rfl
    · refine (hnotes y hy).sub fun b hb => ⟨.inl hb, ?_⟩
      have hlt := H.rows.lt b (.inl hb)
      rw [blk b (by omega) (fun e => H.rows.off b (.inl hb) (.inr ⟨_, List.getElem_mem hk, e⟩)), hb2.block b hlt]
    · refine hnt.sub fun b hb => ⟨.inr hb, blk b hb.2 (fun e => ?_)⟩
      have := hog b e
      have := hb.1
      omega
  · have := hblocks b h
    subst this
    rcases hat3 with h | h
    · exact .inl h
    · right; omega
  · rcases h with h | h
    · exact .inl h
    · refine .inr ⟨by omega, by omega, fun e => ?_⟩
      have := hblocks b e
      subst this
      rcases hat3 with h3 | h3
      · have := hog _ h3; omega
      · omega
end

end Go.Proofs.Ytkddkpdfeeikhaa

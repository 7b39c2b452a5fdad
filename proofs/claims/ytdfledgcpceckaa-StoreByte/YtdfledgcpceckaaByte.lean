/-
  The ways of tglaw2.StoreByte: true on each.
-/
import Derived.Test.YtdfledgcpceckaaAlive
import Derived.Laws.OwnMore
namespace Go.Proofs.Ytdfledgcpceckaa
open Go.RowKit
set_option linter.unusedVariables false
set_option linter.unusedSimpArgs false

attribute [local go_sem ↓] Go.wp_at_zero Go.wp_at_succ

set_option maxRecDepth 100000 in
set_option maxHeartbeats 1600000 in
theorem byte_err (v : Value) (rs : List (List UInt8)) (k at_ : Int) (c : UInt8) (w : World) (hv : SliceS w.heap.size w v rs) (hn : rs.length ≤ 8796093022208) (he : ¬ appE [] rs = 0) :
    Calls Try.prog 7 #[v, .int .i64 k, .int .i64 at_, .int .u8 c.toNat] w fun e w' => e = .returned (.bool true) ∧ Below w.heap.size w w' := by
  have HV : Hid (SliceS w.heap.size w v rs) := hv
  obtain ⟨va, vc, rfl, hv1, hv2⟩ := hv.shape
  obtain ⟨E, hE⟩ : ∃ E, E = appE [] rs := ⟨_, rfl⟩
  have HE : Hid (E = appE [] rs) := hE
  rw [← hE] at he
  have he' : (E == 0) = false := by simpa using he
  have hen : (E != 0) = true := by simpa using he
  clear hE hv
  go_enter Try.func7, Try.ntmps7
  go_wp2_with (first
    | (go_at_call 33; refine (alive_any _).mono ?_; rintro e w1 ⟨rfl, hb1⟩)
    | (go_at_call 27; refine (append_any _ _ 0 [] rs _ (SliceB.nil _ _) (HV.out.below hb1) hn (by decide)).mono ?_; rw [← HE.out]; rintro e w2 ⟨ao1, cap1, rfl, hs1, hb2⟩))
  go_ret
  exact ⟨rfl, (hb1.trans (hb2.mono hb1.size)).alloc (hb1.trans (hb2.mono hb1.size)).size _⟩

set_option maxRecDepth 100000 in
set_option maxHeartbeats 1600000 in
theorem byte_neg (v : Value) (rs : List (List UInt8)) (k at_ : Int) (c : UInt8) (w : World) (hv : SliceS w.heap.size w v rs) (hn : rs.length ≤ 8796093022208) (he : appE [] rs = 0) (hk : k < 0) :
    Calls Try.prog 7 #[v, .int .i64 k, .int .i64 at_, .int .u8 c.toNat] w fun e w' => e = .returned (.bool true) ∧ Below w.heap.size w w' := by
  have HV : Hid (SliceS w.heap.size w v rs) := hv
  obtain ⟨va, vc, rfl, hv1, hv2⟩ := hv.shape
  have HE : Hid (appE [] rs = 0) := he
  clear he hv
  go_enter Try.func7, Try.ntmps7
  go_wp2_with (first
    | (go_at_call 33; refine (alive_any _).mono ?_; rintro e w1 ⟨rfl, hb1⟩)
    | (go_at_call 27; refine (append_any _ _ 0 [] rs _ (SliceB.nil _ _) (HV.out.below hb1) hn (by decide)).mono ?_; rw [HE.out]; rintro e w2 ⟨ao1, cap1, rfl, hs1, hb2⟩; have b2 := hb1.trans (hb2.mono hb1.size)))
  go_ret
  exact ⟨rfl, b2.alloc b2.size _⟩

set_option maxRecDepth 100000 in
set_option maxHeartbeats 1600000 in
theorem byte_much (v : Value) (rs : List (List UInt8)) (k at_ : Int) (c : UInt8) (w : World) (hv : SliceS w.heap.size w v rs) (hn : rs.length ≤ 8796093022208) (he : appE [] rs = 0) (hk0 : 0 ≤ k) (hk : rs.length ≤ k) :
    Calls Try.prog 7 #[v, .int .i64 k, .int .i64 at_, .int .u8 c.toNat] w fun e w' => e = .returned (.bool true) ∧ Below w.heap.size w w' := by
  have HV : Hid (SliceS w.heap.size w v rs) := hv
  obtain ⟨va, vc, rfl, hv1, hv2⟩ := hv.shape
  have HE : Hid (appE [] rs = 0) := he
  have hk1 : ¬ k < 0 := by omega
  clear he hv
  go_enter Try.func7, Try.ntmps7
  go_wp2_with (first
    | (go_at_call 33; refine (alive_any _).mono ?_; rintro e w1 ⟨rfl, hb1⟩)
    | (go_at_call 27; refine (append_any _ _ 0 [] rs _ (SliceB.nil _ _) (HV.out.below hb1) hn (by decide)).mono ?_; rw [HE.out]; rintro e w2 ⟨ao1, cap1, rfl, hs1, hb2⟩; have b2 := hb1.trans (hb2.mono hb1.size)))
  go_ret
  exact ⟨rfl, b2.alloc b2.size _⟩

set_option maxRecDepth 100000 in
set_option maxHeartbeats 1600000 in
theorem byte_atneg (v : Value) (rs : List (List UInt8)) (K : Nat) (at_ : Int) (c : UInt8) (w : World) (hv : SliceS w.heap.size w v rs) (hn : rs.length ≤ 8796093022208) (he : appE [] rs = 0) (hk : K < rs.length) (ha : at_ < 0) :
    Calls Try.prog 7 #[v, .int .i64 K, .int .i64 at_, .int .u8 c.toNat] w fun e w' => e = .returned (.bool true) ∧ Below w.heap.size w w' := by
  have HV : Hid (SliceS w.heap.size w v rs) := hv
  obtain ⟨va, vc, rfl, hv1, hv2⟩ := hv.shape
  have HE : Hid (appE [] rs = 0) := he
  have hk1 : ¬ (rs.length : Int) ≤ (K : Int) := by omega
  have hk2 : ¬ (K : Int) < 0 := by omega
  clear he hv
  go_enter Try.func7, Try.ntmps7
  go_wp2_with (first
    | (go_at_call 33; refine (alive_any _).mono ?_; rintro e w1 ⟨rfl, hb1⟩)
    | (go_at_call 27; refine (append_any _ _ 0 [] rs _ (SliceB.nil _ _) (HV.out.below hb1) hn (by decide)).mono ?_; rw [HE.out]; rintro e w2 ⟨ao1, cap1, rfl, hs1, hb2⟩; have b2 := hb1.trans (hb2.mono hb1.size)))
  go_ret
  exact ⟨rfl, b2.alloc b2.size _⟩

set_option maxRecDepth 100000 in
set_option maxHeartbeats 1600000 in
theorem byte_atmuch (v : Value) (rs : List (List UInt8)) (K A : Nat) (c : UInt8) (w : World) (hv : SliceS w.heap.size w v rs) (hn : rs.length ≤ 8796093022208) (he : appE [] rs = 0) (hk : K < rs.length) (ha : rs[K].length ≤ A) :
    Calls Try.prog 7 #[v, .int .i64 K, .int .i64 A, .int .u8 c.toNat] w fun e w' => e = .returned (.bool true) ∧ Below w.heap.size w w' := by
  have HV : Hid (SliceS w.heap.size w v rs) := hv
  obtain ⟨va, vc, rfl, hv1, hv2⟩ := hv.shape
  have HE : Hid (appE [] rs = 0) := he
  have hk1 : ¬ (rs.length : Int) ≤ (K : Int) := by omega
  have hk2 : ¬ (K : Int) < 0 := by omega
  have ha0 : ¬ (A : Int) < 0 := by omega
  obtain ⟨g, off, ra, rc, rfl, hc, hs, hg, hr1, hr2⟩ := hv.at K hk
  obtain ⟨R, hR⟩ : ∃ R, R = rs[K].length := ⟨_, rfl⟩
  rw [← hR] at hc hr2 ha
  clear he hv hs hR
  have ha1 : (R : Int) ≤ (A : Int) := by omega
  go_enter Try.func7, Try.ntmps7
  go_wp2_with (first
    | (go_at_call 33; refine (alive_any _).mono ?_; rintro e w1 ⟨rfl, hb1⟩)
    | (go_at_call 27; refine (append_any _ _ 0 [] rs _ (SliceB.nil _ _) (HV.out.below hb1) hn (by decide)).mono ?_; rw [HE.out]; rintro e w2 ⟨ao1, cap1, rfl, hs1, hb2⟩; have b2 := hb1.trans (hb2.mono hb1.size); have hz2 := b2.size; have hc2 : w2.cell? ⟨g, off + K, none⟩ = some (.slice ra R rc) := (b2.cell hg).trans hc; have hg2 : g < w2.heap.size := (by omega)))
  go_ret
  exact ⟨rfl, b2.alloc b2.size _⟩

set_option maxRecDepth 100000 in
set_option maxHeartbeats 1600000 in
theorem byte_same (v : Value) (rs : List (List UInt8)) (K A : Nat) (c : UInt8) (w : World) (hv : SliceS w.heap.size w v rs) (hn : rs.length ≤ 8796093022208) (he : appE [] rs = 0) (hk : K < rs.length) (ha : A < rs[K].length) (hs : rs[K][A] = c) :
    Calls Try.prog 7 #[v, .int .i64 K, .int .i64 A, .int .u8 c.toNat] w fun e w' => e = .returned (.bool true) ∧ Below w.heap.size w w' := by
  have HV : Hid (SliceS w.heap.size w v rs) := hv
  obtain ⟨va, vc, rfl, hv1, hv2⟩ := hv.shape
  have HE : Hid (appE [] rs = 0) := he
  have hk1 : ¬ (rs.length : Int) ≤ (K : Int) := by omega
  have hk2 : ¬ (K : Int) < 0 := by omega
  have ha0 : ¬ (A : Int) < 0 := by omega
  obtain ⟨g, off, ra, rc, rfl, hc, ⟨ba, bc, hbe, -, -, -, hby⟩, hg, hr1, hr2⟩ := hv.at K hk
  obtain ⟨gb, ob, rfl, hgb, hd⟩ := hby A ha
  rw [hs] at hd
  simp only [Value.slice.injEq] at hbe
  obtain ⟨rfl, -, -⟩ := hbe
  obtain ⟨R, hR⟩ : ∃ R, R = rs[K].length := ⟨_, rfl⟩
  rw [← hR] at hc hr2 ha
  clear he hv hs hR hby
  have ha1 : ¬ (R : Int) ≤ (A : Int) := by omega
  go_enter Try.func7, Try.ntmps7
  go_wp2_with (first
    | (go_at_call 33; refine (alive_any _).mono ?_; rintro e w1 ⟨rfl, hb1⟩)
    | (go_at_call 27; refine (append_any _ _ 0 [] rs _ (SliceB.nil _ _) (HV.out.below hb1) hn (by decide)).mono ?_; rw [HE.out]; rintro e w2 ⟨ao1, cap1, rfl, hs1, hb2⟩; have b2 := hb1.trans (hb2.mono hb1.size); have hz2 := b2.size; have hc2 : w2.cell? ⟨g, off + K, none⟩ = some (.slice (some ⟨gb, ob, none⟩) R rc) := (b2.cell hg).trans hc; have hg2 : g < w2.heap.size := (by omega); have hd2 : w2.cell? ⟨gb, ob + A, none⟩ = some (.int .u8 c.toNat) := (b2.cell hgb).trans hd; have hg3 : gb < w2.heap.size := (by omega)))
  go_ret
  exact ⟨rfl, b2.alloc b2.size _⟩

theorem u8s_set (bs : List UInt8) (i : Nat) (c : UInt8) : (u8s bs).set i (.int .u8 c.toNat) = u8s (bs.set i c) := by
  simp [u8s, List.map_set]

/-- Bytes that the call made, ahead of a store to one of them, and behind it. -/
theorem turn_facts {w : World} {base cap : Nat} {ao : Option Addr} {L : List UInt8} (h : w.ownsRow base 5 1 (.slice ao (0 + L.length) cap) (0 + L.length) ([] ++ u8s L)) (i : Nat) (hi : i < L.length) (c : UInt8) :
    ∃ g, ao = some ⟨g, 0, none⟩ ∧ w.frozen? ⟨g, i, none⟩ = false ∧ w.cell? ⟨g, i, none⟩ = some (.int .u8 L[i].toNat) ∧
      (w.setCell ⟨g, i, none⟩ (.int .u8 c.toNat)).ownsRow base 5 1 (.slice (some ⟨g, 0, none⟩) L.length cap) L.length (u8s (L.set i c)) ∧ w.grownBy (w.setCell ⟨g, i, none⟩ (.int .u8 c.toNat)) (some g) := by
  rw [Nat.zero_add, List.nil_append] at h
  obtain ⟨g, cap', e⟩ := Joins.ownsRow_form h (by omega)
  simp only [Value.slice.injEq] at e
  obtain ⟨rfl, -, rfl⟩ := e
  have h1 := h.stored i (.int .u8 c.toNat)
  rw [u8s_set] at h1
  refine ⟨g, rfl, h.frozenAt i, (h.cellAt i (by omega)).trans ?_, h1.1, h1.2⟩
  simp [u8s, hi]

set_option maxRecDepth 100000 in
set_option maxHeartbeats 3200000 in
theorem byte_main (v : Value) (rs : List (List UInt8)) (K A : Nat) (c : UInt8) (w : World) (hv : SliceS w.heap.size w v rs) (hn : rs.length ≤ 8796093022208) (he : appE [] rs = 0) (hk : K < rs.length) (ha : A < rs[K].length) (hs : ¬ rs[K][A] = c) :
    Calls Try.prog 7 #[v, .int .i64 K, .int .i64 A, .int .u8 c.toNat] w fun e w' => e = .returned (.bool true) ∧ Below w.heap.size w w' := by
  have HV : Hid (SliceS w.heap.size w v rs) := hv
  obtain ⟨va, vc, rfl, hv1, hv2⟩ := hv.shape
  obtain ⟨hsm, hle, hB⟩ := appE_zero [] rs he
  rw [List.nil_append] at hB
  have HE : Hid (appE [] rs = 0) := he
  have HB : Hid (appB [] rs = framesB rs) := hB
  have HT : Hid (recsF ((framesB rs).set (sizeR (rs.take K) + 2 + A) c) = rs.take K) := turned_recs rs K A c hk ha hs hsm
  have hk1 : ¬ (rs.length : Int) ≤ (K : Int) := by omega
  have hk2 : ¬ (K : Int) < 0 := by omega
  have ha0 : ¬ (A : Int) < 0 := by omega
  obtain ⟨g, off, ra, rc, rfl, hc, ⟨ba, bc, hbe, -, -, -, hby⟩, hg, hr1, hr2⟩ := hv.at K hk
  obtain ⟨gb, ob, rfl, hgb, hd⟩ := hby A ha
  obtain ⟨d, hdd⟩ : ∃ d, d = rs[K][A] := ⟨_, rfl⟩
  rw [← hdd] at hd hs
  have hs1 : (((d.toNat : Nat) : Int) == ((c.toNat : Nat) : Int)) = false := by
    rw [beq_eq_false_iff_ne]
    intro e
    exact hs (UInt8.toNat_inj.1 (by omega))
  simp only [Value.slice.injEq] at hbe
  obtain ⟨rfl, -, -⟩ := hbe
  have hmid := sizeR_take rs K hk
  have hmid2 := sizeR_le rs (K + 1)
  obtain ⟨R, hR⟩ : ∃ R, R = rs[K].length := ⟨_, rfl⟩
  rw [← hR] at hc hr2 ha hmid
  have hsz4 := sizeR_len4 rs
  have hfl := framesB_len rs
  obtain ⟨P, hP⟩ : ∃ P, P = sizeR (rs.take K) := ⟨_, rfl⟩
  have HP : Hid (P = sizeR (rs.take K)) := hP
  rw [← hP] at hmid HT
  obtain ⟨L, hL⟩ : ∃ L, L = framesB rs := ⟨_, rfl⟩
  rw [← hL] at HT HB hfl
  have hLl : L.length ≤ 6000 := by simp at hle; omega
  have hPA : P + 2 + A < L.length := by omega
  have HLE : Hid (sizeR rs ≤ 6000) := by show _ ≤ _; simpa using hle
  clear he hv hs hR hby hP hL hdd hfl hmid hmid2 hB hle hsm
  have ha1 : ¬ (R : Int) ≤ (A : Int) := by omega
  go_enter Try.func7, Try.ntmps7
  go_wp2_with (first
    | (go_at_call 33; refine (alive_any _).mono ?_; rintro e w1 ⟨rfl, hb1⟩)
    | (go_at_call 27; refine (append_any _ _ 0 [] rs _ (SliceB.nil _ _) (HV.out.below hb1) hn (by decide)).mono ?_; rw [HE.out, HB.out]; rintro e w2 ⟨ao1, cap1, rfl, hs2, hb2⟩; have b2 := hb1.trans (hb2.mono hb1.size); have hz2 := b2.size; have hc2 : w2.cell? ⟨g, off + K, none⟩ = some (.slice (some ⟨gb, ob, none⟩) R rc) := (b2.cell hg).trans hc; have hg2 : g < w2.heap.size := (by omega); have hd2 : w2.cell? ⟨gb, ob + A, none⟩ = some (.int .u8 d.toNat) := (b2.cell hgb).trans hd; have hg3 : gb < w2.heap.size := (by omega); have H2 : Hid (SliceB w2.heap.size w2 (.slice ao1 L.length cap1) L) := hs2; clear hs2))
  have HX : Hid (∀ o, SliceS (w2.alloc o).heap.size (w2.alloc o) (.slice (some ⟨g, off, none⟩) rs.length vc) rs) := fun o => (HV.out.below b2).below (below_alloc _ o)
  go_loop [11, 65] (fun f i => ∃ j : Nat, j ≤ K ∧ i = .int .i64 j ∧ f = .int .i64 (2 + sizeR (rs.take j) : Nat)) (fun _ i => K - (intOf i).toNat)
  case atStart => exact ⟨0, Nat.zero_le _, rfl, rfl⟩
  case round =>
    obtain ⟨j, hj, rfl, rfl⟩ := hrel
    by_cases hlt : j < K
    · obtain ⟨g', off', ra', rc', hga, hcj, -, -, hr1', hr2'⟩ := (HX.out (.cells #[.slice ao1 L.length cap1, .int .i64 0] 38)).at j (by omega)
      simp only [Option.some.injEq, Addr.mk.injEq, and_true] at hga
      obtain ⟨rfl, rfl⟩ := hga
      have hst := sizeR_take rs j (by omega)
      have hst2 := sizeR_le rs (j + 1)
      have hst3 := HLE.out
      obtain ⟨R', hR'⟩ : ∃ R', R' = rs[j].length := ⟨_, rfl⟩
      rw [← hR'] at hcj hr2' hst
      obtain ⟨F, hF⟩ : ∃ F, F = sizeR (rs.take j) := ⟨_, rfl⟩
      have HST : Hid (sizeR (rs.take (j + 1)) = F + (R' + 4)) := by show _ = _; rw [hF]; exact hst
      rw [← hF] at hst ⊢
      rw [hst] at hst2
      have hcj' : w2.cell? ⟨g, off + j, none⟩ = some (.slice ra' R' rc') := by rw [World.cell?_alloc_lt _ _ _ hg2] at hcj; exact hcj
      clear hR' hF hst hcj
      go_wp2
      go_round
      case rel => exact ⟨j + 1, by omega, by go_num, by rw [HST.out]; go_num⟩
      case measure => simp [intOf]; omega
    · obtain rfl : j = K := by omega
      rw [← HP.out]
      have HT' : Hid (recsF (L.set (2 + P + A) c) = rs.take j) := by show _ = _; rw [Nat.add_comm 2 P]; exact HT.out
      have hno : ∀ W : World, W.heap.size = w2.heap.size + 1 → (W.alloc (.cells #[] 5)).ownsRow (w2.heap.size + 1) 5 1 (.slice (some ⟨w2.heap.size + 1, 0, none⟩) 0 0) 0 [] := fun W e => by rw [← e]; exact new_own W _ [] #[] (by simp [maxLen]) rfl (by omega)
      go_wp2_with (first
        | (at_builtin; refine wpList_app rfl (.tmp 82) (.tmp 84) rfl (w2.heap.size + 1) _ 0 [] rfl (hno _ (by simp)) _ (.slice ao1 L.length cap1) L rfl ((H2.out.below (below_alloc _ _)).below (below_alloc _ _)) (by omega) (by simp) ?_; intro ao3 cap3 w3 hown3 hg3 hm3; obtain ⟨g3, rfl, hz3, hz4, hst3, hst4⟩ := turn_facts hown3 (2 + P + A) (by omega) c; have b3 : Below (w2.heap.size + 1) (w2.alloc (.cells #[.slice ao1 L.length cap1, .int .i64 0] 38)) w3 := ((Below.refl _ _).alloc (by simp) _).trans (own_drop (hno _ (by simp)) (by simp) hg3); have H3 : Hid (w3.ownsRow (w2.heap.size + 1) 5 1 (.slice (some ⟨g3, 0, none⟩) (0 + L.length) cap3) (0 + L.length) ([] ++ u8s L)) := hown3; clear hown3)
        | (go_at_call 31; refine (records_any _ (L.set (2 + P + A) c) _ (by have := own_slice (bs := L.set (2 + P + A) c) (by rw [List.length_set]; exact hst3); exact this) (by rw [List.length_set]; omega)).mono ?_; rw [HT'.out]; rintro e w4 ⟨ra4, rc4, rfl, hr4, hb4⟩; rw [← HP.out, List.length_take]))
      go_ret
      refine ⟨ret_bool ?_, ?_⟩
      · simp; omega
      · have b3' : Below w.heap.size w w3 := (b2.alloc b2.size _).trans (b3.mono (by omega))
        have b4 : Below w.heap.size w (w3.setCell ⟨g3, 2 + P + A, none⟩ (.int .u8 c.toNat)) := b3'.setCell (by have := (H3.out.lt g3 rfl).1; dsimp only; omega) _
        exact b4.trans (hb4.mono b4.size)

theorem byte_any (v : Value) (rs : List (List UInt8)) (k at_ : Int) (c : UInt8) (w : World) (hv : SliceS w.heap.size w v rs) (hn : rs.length ≤ 8796093022208) :
    Calls Try.prog 7 #[v, .int .i64 k, .int .i64 at_, .int .u8 c.toNat] w fun e w' => e = .returned (.bool true) ∧ Below w.heap.size w w' := by
  by_cases he : appE [] rs = 0
  case neg => exact byte_err v rs k at_ c w hv hn he
  by_cases hk : k < 0
  case pos => exact byte_neg v rs k at_ c w hv hn he hk
  by_cases hk2 : rs.length ≤ k
  case pos => exact byte_much v rs k at_ c w hv hn he (by omega) hk2
  obtain ⟨K, rfl⟩ : ∃ K : Nat, k = K := ⟨k.toNat, by omega⟩
  have hK : K < rs.length := by omega
  by_cases ha : at_ < 0
  case pos => exact byte_atneg v rs K at_ c w hv hn he hK ha
  obtain ⟨A, rfl⟩ : ∃ A : Nat, at_ = A := ⟨at_.toNat, by omega⟩
  by_cases hA : A < rs[K].length
  case neg => exact byte_atmuch v rs K A c w hv hn he hK (by omega)
  by_cases hs : rs[K][A] = c
  · exact byte_same v rs K A c w hv hn he hK hA hs
  · exact byte_main v rs K A c w hv hn he hK hA hs
end Go.Proofs.Ytdfledgcpceckaa

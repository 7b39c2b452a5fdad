/-
  HallErrs.
-/
import Derived.Test.YthdaccmjipomdabErrsC
import Derived.Test.YthdaccmjipomdabAlive
import Derived.Deep.DeepCutAuto
namespace Go.Proofs.Ythdaccmjipomdab
open Go.RowKit
set_option linter.unusedVariables false
set_option linter.unusedSimpArgs false

attribute [local go_sem ↓] Go.wp_at_zero Go.wp_at_succ

theorem enter41 (args : Array Value) (W : World) : (callFunc 41 args).run Try.prog W = .ok (.enter 41 args) W := by go_simp

theorem Blk.b4 {w : World} {b : Nat} {x0 x1 x2 x3 : Value} (h : Blk w b [x0, x1, x2, x3]) : w.cell? ⟨b, 0, none⟩ = some x0 ∧ w.cell? ⟨b, 1, none⟩ = some x1 ∧ w.cell? ⟨b, 2, none⟩ = some x2 ∧ w.cell? ⟨b, 3, none⟩ = some x3 ∧ (∀ o, w.frozen? ⟨b, o, none⟩ = false) ∧ b < w.heap.size := ⟨h.cell 0, h.cell 1, h.cell 2, h.cell 3, h.f, h.lt⟩
theorem HD.sound.nxt {h : HD} (s : h.sound) : 0 ≤ h.next ∧ h.next ≤ 1000000000 := ⟨s.2.1.1, by have := s.2.1.2; omega⟩

/-- What all of the walk's worlds have. -/
structure EK (b : Nat) (v : Value) (h : HD) (pv bv : Value) (n : ND) (tn : Int) (tq : ByteArray) (id turn : Int) (W : World) : Prop where
  k0 : Blk W b [v, .int .i64 h.next]
  k1 : Blk W (b + 1) [pv, bv]
  k2 : Blk W (b + 1 + 1) [.int .i64 tn, .string tq, .int .i64 id, .int .i64 turn]
  q : SliceQ (Under W.heap.size) W v h.queues
  n : NoteIs (Under W.heap.size) W (pv, bv) n

theorem EK.on {b : Nat} {v : Value} {h : HD} {pv bv : Value} {n : ND} {tn : Int} {tq : ByteArray} {id turn : Int} {W W' : World} (k : EK b v h pv bv n tn tq id turn W) (hb : Below W.heap.size W W') : EK b v h pv bv n tn tq id turn W' :=
  ⟨k.k0.below hb k.k0.lt, k.k1.below hb k.k1.lt, k.k2.below hb k.k2.lt, k.q.sub fun b h => ⟨Nat.lt_of_lt_of_le h hb.size, hb.block b h⟩, k.n.sub fun b h => ⟨Nat.lt_of_lt_of_le h hb.size, hb.block b h⟩⟩

theorem EK.new (w : World) (v : Value) (h : HD) (pv bv : Value) (n : ND) (tn : Int) (tq : ByteArray) (id turn : Int) (hv : SliceQ (Under w.heap.size) w v h.queues) (hn : NoteIs (Under w.heap.size) w (pv, bv) n) :
    EK w.heap.size v h pv bv n tn tq id turn (((w.alloc (.cells #[v, .int .i64 h.next] 43)).alloc (.cells #[pv, bv] 32)).alloc (.cells #[.int .i64 tn, .string tq, .int .i64 id, .int .i64 turn] 47)) := by
  have hb : Below w.heap.size w (((w.alloc (.cells #[v, .int .i64 h.next] 43)).alloc (.cells #[pv, bv] 32)).alloc (.cells #[.int .i64 tn, .string tq, .int .i64 id, .int .i64 turn] 47)) := ((below_alloc _ _).alloc (by simp) _).alloc (by simp; omega) _
  have h1 := Blk.new (w.alloc (.cells #[v, .int .i64 h.next] 43)) [pv, bv] 32
  have h2 := Blk.new ((w.alloc (.cells #[v, .int .i64 h.next] 43)).alloc (.cells #[pv, bv] 32)) [.int .i64 tn, .string tq, .int .i64 id, .int .i64 turn] 47
  simp only [World.size_alloc] at h1 h2
  exact ⟨((Blk.new w [v, .int .i64 h.next] 43).alloc _).alloc _, h1.alloc _, h2, hv.sub fun b h => ⟨Nat.lt_of_lt_of_le h hb.size, hb.block b h⟩, hn.sub fun b h => ⟨Nat.lt_of_lt_of_le h hb.size, hb.block b h⟩⟩

/-- One answer, in its box. -/
structure AK (g : Nat) (r : HD × List ED × Int) (va : Option Addr) (vc : Nat) (W : World) : Prop where
  k : Blk W g [.slice va r.1.queues.length vc, .int .i64 r.1.next]
  q : SliceQ (Under W.heap.size) W (.slice va r.1.queues.length vc) r.1.queues
theorem AK.on {g : Nat} {r : HD × List ED × Int} {va : Option Addr} {vc : Nat} {W W' : World} (k : AK g r va vc W) (hb : Below W.heap.size W W') : AK g r va vc W' :=
  ⟨k.k.below hb k.k.lt, k.q.sub fun b h => ⟨Nat.lt_of_lt_of_le h hb.size, hb.block b h⟩⟩
theorem AK.new {r : HD × List ED × Int} {va : Option Addr} {vc : Nat} {B : Nat} {W : World} (h : SliceQ (Made B W.heap.size) W (.slice va r.1.queues.length vc) r.1.queues) : AK W.heap.size r va vc (W.alloc (.cells #[.slice va r.1.queues.length vc, .int .i64 r.1.next] 43)) :=
  ⟨Blk.new W _ 43, h.sub fun b hb => ⟨Nat.lt_of_lt_of_le hb.2 (by simp), Below.heap_alloc _ _ _ hb.2⟩⟩

set_option maxRecDepth 100000 in
set_option maxHeartbeats 6400000 in
theorem errs_any (v : Value) (h : HD) (name : ByteArray) (pv bv : Value) (n : ND) (tn : Int) (tq : ByteArray) (id turn now : Int) (w : World) (hv : SliceQ (Under w.heap.size) w v h.queues) (hname : ∀ q ∈ h.queues, q.name.size ≤ maxLen) (hfit : ∀ q ∈ h.queues, ∀ i ∈ q.items, i.note.fitN) (hn : NoteIs (Under w.heap.size) w (pv, bv) n) (hf : n.fitN) :
    Calls Try.prog 6 #[.agg #[v, .int .i64 h.next], .string name, .agg #[pv, bv], .agg #[.int .i64 tn, .string tq, .int .i64 id, .int .i64 turn], .int .i64 now] w fun e w' => e = .returned (.bool true) ∧ Below w.heap.size w w' := by
  have HX : Hid ((∀ q ∈ h.queues, q.name.size ≤ maxLen) ∧ (∀ q ∈ h.queues, ∀ i ∈ q.items, i.note.fitN) ∧ n.fitN) := ⟨hname, hfit, hf⟩
  obtain ⟨va, vc, rfl⟩ := hv.shp
  obtain ⟨pa, pc, rfl, -⟩ := SliceV.shape hn.1
  obtain ⟨ba, bc, rfl, -⟩ := SliceV.shape hn.2
  obtain ⟨X, hX⟩ : ∃ X, X = (((w.alloc (.cells #[.slice va h.queues.length vc, .int .i64 h.next] 43)).alloc (.cells #[.slice pa n.props.length pc, .slice ba n.body.length bc] 32)).alloc (.cells #[.int .i64 tn, .string tq, .int .i64 id, .int .i64 turn] 47)) := ⟨_, rfl⟩
  have KX : Hid (EK w.heap.size (.slice va h.queues.length vc) h (.slice pa n.props.length pc) (.slice ba n.body.length bc) n tn tq id turn X) := by rw [hX]; exact EK.new w _ h _ _ n tn tq id turn hv hn
  have BX : Hid (Below w.heap.size w X) := by rw [hX]; exact ((below_alloc _ _).alloc (by simp) _).alloc (by simp; omega) _
  clear hv hname hfit hn hf
  go_enter Try.func6, Try.ntmps6
  go_upto_region 1 with fail
  rw [← hX]
  clear hX
  go_upto_region 3 with (go_at_call 40; refine (alive_any _).mono ?_; rintro e w0 ⟨rfl, hb0⟩)
  have K0 : Hid (EK w.heap.size (.slice va h.queues.length vc) h (.slice pa n.props.length pc) (.slice ba n.body.length bc) n tn tq id turn w0) := KX.out.on hb0
  have B0 : Hid (Below w.heap.size w w0) := BX.out.trans (hb0.mono BX.out.size)
  clear hb0 KX BX
  obtain ⟨a0, a1, a2, a3⟩ := K0.out.k0.b2
  by_cases n1 : now < 0
  · go_wp2_with (go_at_call 12; refine (rightH_any _ h _ K0.out.q HX.out.1 HX.out.2.1).mono ?_; rintro e w1 ⟨kb, rfl, -, hb1⟩; cases kb)
    all_goals
      go_ret
      exact ⟨rfl, B0.out.trans (hb1.mono B0.out.size)⟩
  by_cases n2 : 1000 < now
  · go_wp2_with (go_at_call 12; refine (rightH_any _ h _ K0.out.q HX.out.1 HX.out.2.1).mono ?_; rintro e w1 ⟨kb, rfl, -, hb1⟩; cases kb)
    all_goals
      go_ret
      exact ⟨rfl, B0.out.trans (hb1.mono B0.out.size)⟩
  go_upto_region 6 with (go_at_call 12; refine (rightH_any _ h _ K0.out.q HX.out.1 HX.out.2.1).mono ?_; rintro e w1 ⟨kb, rfl, hs1, hb1⟩; cases kb)
  · go_ret
    exact ⟨rfl, B0.out.trans (hb1.mono B0.out.size)⟩
  have HS : Hid h.sound := hs1 (by first | trivial | rfl)
  have K : Hid (EK w.heap.size (.slice va h.queues.length vc) h (.slice pa n.props.length pc) (.slice ba n.body.length bc) n tn tq id turn w1) := K0.out.on hb1
  have B : Hid (Below w.heap.size w w1) := B0.out.trans (hb1.mono B0.out.size)
  clear hb1 hs1 K0 B0 a0 a1 a2 a3
  obtain ⟨r1, hr1⟩ : ∃ r, r = hallPutF h name n := ⟨_, rfl⟩
  have F1 : Hid (FineR h name r1) := by rw [hr1]; exact fine_put HS.out name n
  have R1 : Hid (r1 = hallPutF h name n) := hr1
  clear hr1
  obtain ⟨a0, a1, a2, a3⟩ := K.out.k0.b2
  obtain ⟨b0, b1, b2, b3⟩ := K.out.k1.b2
  go_upto_region 7 with (go_at_call 27; refine (hallPut_any _ h name _ _ n _ K.out.q HS.out.good.small HS.out.nxt K.out.n HX.out.2.2).mono ?_; rw [← R1.out]; rintro e x1 ⟨⟨va1, vc1, ea1, ec1, rfl, hQ1, -⟩, hb1⟩)
  obtain ⟨W1, hW1⟩ : ∃ W, W = x1.alloc (.cells #[.slice va1 r1.1.queues.length vc1, .int .i64 r1.1.next] 43) := ⟨_, rfl⟩
  have D1 : Hid (Below w1.heap.size w1 W1) := by rw [hW1]; exact hb1.alloc hb1.size _
  have A1 : Hid (AK x1.heap.size r1 va1 vc1 W1) := by rw [hW1]; exact AK.new hQ1
  replace K : Hid (EK w.heap.size (.slice va h.queues.length vc) h (.slice pa n.props.length pc) (.slice ba n.body.length bc) n tn tq id turn W1) := K.out.on D1.out
  replace B : Hid (Below w.heap.size w W1) := B.out.trans (D1.out.mono B.out.size)
  rw [← hW1]
  clear hW1 hb1 hQ1 D1 R1 a0 a1 a2 a3 b0 b1 b2 b3
  obtain ⟨r2, hr2⟩ : ∃ r, r = faceF h tq (fun k q => doneF h k q id turn) := ⟨_, rfl⟩
  have F2 : Hid (FineR h tq r2) := by rw [hr2]; exact fine_done HS.out tq id turn
  have R2 : Hid (r2 = faceF h tq (fun k q => doneF h k q id turn)) := hr2
  clear hr2
  obtain ⟨a0, a1, a2, a3⟩ := K.out.k0.b2
  obtain ⟨b0, b1, b2, b3, b4, b5⟩ := K.out.k2.b4
  go_upto_region 8 with (go_at_call 29; refine (hallDone_any _ h tn tq id turn _ K.out.q HS.out.good.small).mono ?_; rw [← R2.out]; rintro e x2 ⟨⟨va2, vc2, ea2, ec2, rfl, hQ2, -⟩, hb2⟩)
  obtain ⟨W2, hW2⟩ : ∃ W, W = x2.alloc (.cells #[.slice va2 r2.1.queues.length vc2, .int .i64 r2.1.next] 43) := ⟨_, rfl⟩
  have D2 : Hid (Below W1.heap.size W1 W2) := by rw [hW2]; exact hb2.alloc hb2.size _
  have A2 : Hid (AK x2.heap.size r2 va2 vc2 W2) := by rw [hW2]; exact AK.new hQ2
  replace K : Hid (EK w.heap.size (.slice va h.queues.length vc) h (.slice pa n.props.length pc) (.slice ba n.body.length bc) n tn tq id turn W2) := K.out.on D2.out
  replace B : Hid (Below w.heap.size w W2) := B.out.trans (D2.out.mono B.out.size)
  replace A1 : Hid (AK x1.heap.size r1 va1 vc1 W2) := A1.out.on D2.out
  rw [← hW2]
  clear hW2 hb2 hQ2 D2 R2 a0 a1 a2 a3 b0 b1 b2 b3 b4 b5
  obtain ⟨r3, hr3⟩ : ∃ r, r = faceF h tq (fun k q => backF h k q id turn) := ⟨_, rfl⟩
  have F3 : Hid (FineR h tq r3) := by rw [hr3]; exact fine_back HS.out tq id turn
  have R3 : Hid (r3 = faceF h tq (fun k q => backF h k q id turn)) := hr3
  clear hr3
  obtain ⟨a0, a1, a2, a3⟩ := K.out.k0.b2
  obtain ⟨b0, b1, b2, b3, b4, b5⟩ := K.out.k2.b4
  go_upto_region 9 with (go_at_call 31; refine (hallBack_any _ h tn tq id turn _ K.out.q HS.out.good.small HS.out.good.fits HS.out.nxt).mono ?_; rw [← R3.out]; rintro e x3 ⟨⟨va3, vc3, ea3, ec3, rfl, hQ3, -⟩, hb3⟩)
  obtain ⟨W3, hW3⟩ : ∃ W, W = x3.alloc (.cells #[.slice va3 r3.1.queues.length vc3, .int .i64 r3.1.next] 43) := ⟨_, rfl⟩
  have D3 : Hid (Below W2.heap.size W2 W3) := by rw [hW3]; exact hb3.alloc hb3.size _
  have A3 : Hid (AK x3.heap.size r3 va3 vc3 W3) := by rw [hW3]; exact AK.new hQ3
  replace K : Hid (EK w.heap.size (.slice va h.queues.length vc) h (.slice pa n.props.length pc) (.slice ba n.body.length bc) n tn tq id turn W3) := K.out.on D3.out
  replace B : Hid (Below w.heap.size w W3) := B.out.trans (D3.out.mono B.out.size)
  replace A1 : Hid (AK x1.heap.size r1 va1 vc1 W3) := A1.out.on D3.out
  replace A2 : Hid (AK x2.heap.size r2 va2 vc2 W3) := A2.out.on D3.out
  rw [← hW3]
  clear hW3 hb3 hQ3 D3 R3 a0 a1 a2 a3 b0 b1 b2 b3 b4 b5
  obtain ⟨r4, hr4⟩ : ∃ r, r = faceF h name (fun k q => purgeF h k q) := ⟨_, rfl⟩
  have F4 : Hid (FineR h name r4) := by rw [hr4]; exact fine_purge HS.out name
  have R4 : Hid (r4 = faceF h name (fun k q => purgeF h k q)) := hr4
  clear hr4
  obtain ⟨a0, a1, a2, a3⟩ := K.out.k0.b2
  go_upto_region 10 with (go_at_call 33; refine (hallPurge_any _ h name _ K.out.q HS.out.good.small).mono ?_; rw [← R4.out]; rintro e x4 ⟨⟨va4, vc4, ea4, ec4, rfl, hQ4, -⟩, hb4⟩)
  obtain ⟨W4, hW4⟩ : ∃ W, W = x4.alloc (.cells #[.slice va4 r4.1.queues.length vc4, .int .i64 r4.1.next] 43) := ⟨_, rfl⟩
  have D4 : Hid (Below W3.heap.size W3 W4) := by rw [hW4]; exact hb4.alloc hb4.size _
  have A4 : Hid (AK x4.heap.size r4 va4 vc4 W4) := by rw [hW4]; exact AK.new hQ4
  replace K : Hid (EK w.heap.size (.slice va h.queues.length vc) h (.slice pa n.props.length pc) (.slice ba n.body.length bc) n tn tq id turn W4) := K.out.on D4.out
  replace B : Hid (Below w.heap.size w W4) := B.out.trans (D4.out.mono B.out.size)
  replace A1 : Hid (AK x1.heap.size r1 va1 vc1 W4) := A1.out.on D4.out
  replace A2 : Hid (AK x2.heap.size r2 va2 vc2 W4) := A2.out.on D4.out
  replace A3 : Hid (AK x3.heap.size r3 va3 vc3 W4) := A3.out.on D4.out
  rw [← hW4]
  clear hW4 hb4 hQ4 D4 R4 a0 a1 a2 a3
  obtain ⟨r5, hr5⟩ : ∃ r, r = faceF h name (fun k q => dropF h k q) := ⟨_, rfl⟩
  have F5 : Hid (FineR h name r5) := by rw [hr5]; exact fine_drop HS.out name
  have R5 : Hid (r5 = faceF h name (fun k q => dropF h k q)) := hr5
  clear hr5
  obtain ⟨a0, a1, a2, a3⟩ := K.out.k0.b2
  go_upto_region 11 with (go_at_call 25; refine (hallDrop_any _ h name _ K.out.q HS.out.good.small).mono ?_; rw [← R5.out]; rintro e x5 ⟨⟨va5, vc5, ea5, ec5, rfl, hQ5, -⟩, hb5⟩)
  obtain ⟨W5, hW5⟩ : ∃ W, W = x5.alloc (.cells #[.slice va5 r5.1.queues.length vc5, .int .i64 r5.1.next] 43) := ⟨_, rfl⟩
  have D5 : Hid (Below W4.heap.size W4 W5) := by rw [hW5]; exact hb5.alloc hb5.size _
  have A5 : Hid (AK x5.heap.size r5 va5 vc5 W5) := by rw [hW5]; exact AK.new hQ5
  replace K : Hid (EK w.heap.size (.slice va h.queues.length vc) h (.slice pa n.props.length pc) (.slice ba n.body.length bc) n tn tq id turn W5) := K.out.on D5.out
  replace B : Hid (Below w.heap.size w W5) := B.out.trans (D5.out.mono B.out.size)
  replace A1 : Hid (AK x1.heap.size r1 va1 vc1 W5) := A1.out.on D5.out
  replace A2 : Hid (AK x2.heap.size r2 va2 vc2 W5) := A2.out.on D5.out
  replace A3 : Hid (AK x3.heap.size r3 va3 vc3 W5) := A3.out.on D5.out
  replace A4 : Hid (AK x4.heap.size r4 va4 vc4 W5) := A4.out.on D5.out
  rw [← hW5]
  clear hW5 hb5 hQ5 D5 R5 a0 a1 a2 a3
  have hs := HS.out.good.small
  have HM : Hid (smallQ h.queues) := hs
  clear hs
  obtain ⟨p10, p11, p12, p13⟩ := A1.out.k.b2
  obtain ⟨p20, p21, p22, p23⟩ := A2.out.k.b2
  obtain ⟨p30, p31, p32, p33⟩ := A3.out.k.b2
  obtain ⟨p40, p41, p42, p43⟩ := A4.out.k.b2
  obtain ⟨p50, p51, p52, p53⟩ := A5.out.k.b2
  obtain ⟨b0, b1, b2, b3, b4, b5⟩ := K.out.k2.b4
  go_wp2_with (first
    | (go_at_call_of 41 va1; refine (fine_any _ _ h name r1 va1 ea1 vc1 ec1 _ K.out.k0 K.out.q A1.out.q HM.out F1.out).mono ?_; rintro e y1 ⟨rfl, hb⟩; replace K : Hid (EK w.heap.size (.slice va h.queues.length vc) h (.slice pa n.props.length pc) (.slice ba n.body.length bc) n tn tq id turn y1) := K.out.on hb; replace B : Hid (Below w.heap.size w y1) := B.out.trans (hb.mono B.out.size); replace A2 : Hid (AK x2.heap.size r2 va2 vc2 y1) := A2.out.on hb; replace A3 : Hid (AK x3.heap.size r3 va3 vc3 y1) := A3.out.on hb; replace A4 : Hid (AK x4.heap.size r4 va4 vc4 y1) := A4.out.on hb; replace A5 : Hid (AK x5.heap.size r5 va5 vc5 y1) := A5.out.on hb; clear hb b0 b1 b2 b3 b4 b5 p10 p11 p12 p13 p20 p21 p22 p23 p30 p31 p32 p33 p40 p41 p42 p43 p50 p51 p52 p53; obtain ⟨p20, p21, p22, p23⟩ := A2.out.k.b2; obtain ⟨p30, p31, p32, p33⟩ := A3.out.k.b2; obtain ⟨p40, p41, p42, p43⟩ := A4.out.k.b2; obtain ⟨p50, p51, p52, p53⟩ := A5.out.k.b2; obtain ⟨b0, b1, b2, b3, b4, b5⟩ := K.out.k2.b4)
    | (go_at_call_of 41 va2; refine (fine_any _ _ h tq r2 va2 ea2 vc2 ec2 _ K.out.k0 K.out.q A2.out.q HM.out F2.out).mono ?_; rintro e y2 ⟨rfl, hb⟩; replace K : Hid (EK w.heap.size (.slice va h.queues.length vc) h (.slice pa n.props.length pc) (.slice ba n.body.length bc) n tn tq id turn y2) := K.out.on hb; replace B : Hid (Below w.heap.size w y2) := B.out.trans (hb.mono B.out.size); replace A3 : Hid (AK x3.heap.size r3 va3 vc3 y2) := A3.out.on hb; replace A4 : Hid (AK x4.heap.size r4 va4 vc4 y2) := A4.out.on hb; replace A5 : Hid (AK x5.heap.size r5 va5 vc5 y2) := A5.out.on hb; clear hb b0 b1 b2 b3 b4 b5 p20 p21 p22 p23 p30 p31 p32 p33 p40 p41 p42 p43 p50 p51 p52 p53; obtain ⟨p30, p31, p32, p33⟩ := A3.out.k.b2; obtain ⟨p40, p41, p42, p43⟩ := A4.out.k.b2; obtain ⟨p50, p51, p52, p53⟩ := A5.out.k.b2; obtain ⟨b0, b1, b2, b3, b4, b5⟩ := K.out.k2.b4)
    | (go_at_call_of 41 va3; refine (fine_any _ _ h tq r3 va3 ea3 vc3 ec3 _ K.out.k0 K.out.q A3.out.q HM.out F3.out).mono ?_; rintro e y3 ⟨rfl, hb⟩; replace K : Hid (EK w.heap.size (.slice va h.queues.length vc) h (.slice pa n.props.length pc) (.slice ba n.body.length bc) n tn tq id turn y3) := K.out.on hb; replace B : Hid (Below w.heap.size w y3) := B.out.trans (hb.mono B.out.size); replace A4 : Hid (AK x4.heap.size r4 va4 vc4 y3) := A4.out.on hb; replace A5 : Hid (AK x5.heap.size r5 va5 vc5 y3) := A5.out.on hb; clear hb b0 b1 b2 b3 b4 b5 p30 p31 p32 p33 p40 p41 p42 p43 p50 p51 p52 p53; obtain ⟨p40, p41, p42, p43⟩ := A4.out.k.b2; obtain ⟨p50, p51, p52, p53⟩ := A5.out.k.b2; obtain ⟨b0, b1, b2, b3, b4, b5⟩ := K.out.k2.b4)
    | (go_at_call_of 41 va4; refine (fine_any _ _ h name r4 va4 ea4 vc4 ec4 _ K.out.k0 K.out.q A4.out.q HM.out F4.out).mono ?_; rintro e y4 ⟨rfl, hb⟩; replace K : Hid (EK w.heap.size (.slice va h.queues.length vc) h (.slice pa n.props.length pc) (.slice ba n.body.length bc) n tn tq id turn y4) := K.out.on hb; replace B : Hid (Below w.heap.size w y4) := B.out.trans (hb.mono B.out.size); replace A5 : Hid (AK x5.heap.size r5 va5 vc5 y4) := A5.out.on hb; clear hb b0 b1 b2 b3 b4 b5 p40 p41 p42 p43 p50 p51 p52 p53; obtain ⟨p50, p51, p52, p53⟩ := A5.out.k.b2; obtain ⟨b0, b1, b2, b3, b4, b5⟩ := K.out.k2.b4)
    | (go_at_call_of 41 va5; refine (fine_any _ _ h name r5 va5 ea5 vc5 ec5 _ K.out.k0 K.out.q A5.out.q HM.out F5.out).mono ?_; rintro e y5 ⟨rfl, hb⟩; replace K : Hid (EK w.heap.size (.slice va h.queues.length vc) h (.slice pa n.props.length pc) (.slice ba n.body.length bc) n tn tq id turn y5) := K.out.on hb; replace B : Hid (Below w.heap.size w y5) := B.out.trans (hb.mono B.out.size); clear hb b0 b1 b2 b3 b4 b5 p50 p51 p52 p53; obtain ⟨b0, b1, b2, b3, b4, b5⟩ := K.out.k2.b4))
  go_ret
  exact ⟨rfl, B.out⟩
end Go.Proofs.Ythdaccmjipomdab

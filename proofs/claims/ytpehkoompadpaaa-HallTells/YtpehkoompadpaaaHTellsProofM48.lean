/-
  Parts; HTellsK; Ht7; Ht8: texts laid together.
-/
import Derived.Test.YtpehkoompadpaaaHTellsProofM47
import Derived.Deep.CutRange
import Derived.Deep.DeepCutAuto
/-
  A function's body, statement by statement: each has a theorem of its own.
-/
namespace Go.Proofs.Ytpehkoompadpaaa
open Go.RowKit
set_option linter.unusedVariables false
set_option linter.unusedSimpArgs false

/-- The n-th statement of a row. -/
def stmtOf : Nat → Code → Option Code
  | 0, .seq a _ => some a
  | n + 1, .seq _ b => stmtOf n b
  | _, _ => none
/-- All from the n-th on. -/
def restOf : Nat → Code → Option Code
  | 0, c => some c
  | n + 1, .seq _ b => restOf n b
  | _, _ => none
def stmtAt (n : Nat) (f : Func) : Option Code := f.body.bind (stmtOf n)
def restAt (n : Nat) (f : Func) : Option Code := f.body.bind (restOf n)

theorem all_of {P : Code → Prop} {o : Option Code} {c : Code} (h : o = some c) (hp : P c) : ∀ c', o = some c' → P c' := by
  intro c' h'
  rw [h] at h'
  cases h'
  exact hp

theorem restOf_seq : ∀ (n : Nat) (c a b : Code), stmtOf n c = some a → restOf (n + 1) c = some b → restOf n c = some (.seq a b)
  | 0, .seq x y, a, b, h, k => by cases h; cases k; rfl
  | n + 1, .seq x y, a, b, h, k => restOf_seq n y a b h k

theorem rest_seq {P : Program} {f : Func} {n : Nat} {Q : Exit → Act → World → Prop} {a : Act} {w : World} {s b : Code} (h1 : stmtAt n f = some s) (h2 : restAt (n + 1) f = some b)
    (hs : ∀ c, stmtAt n f = some c → c.wp P (Exit.then (fun a w => ∀ c, restAt (n + 1) f = some c → c.wp P Q a w) Q) a w) : ∀ c, restAt n f = some c → c.wp P Q a w := by
  have e : restAt n f = some (.seq s b) := by
    unfold restAt stmtAt at *
    cases hb : f.body with
    | none => rw [hb] at h1; cases h1
    | some c0 => rw [hb] at h1 h2; exact restOf_seq n c0 s b h1 h2
  intro c hc
  rw [e] at hc
  cases hc
  refine wp_seq ?_
  refine wp_mono (hs s h1) ?_
  intro e' a' w' hq
  cases e' with
  | normal => exact hq b h2
  | _ => exact hq
end Go.Proofs.Ytpehkoompadpaaa

/-
  tglaw4.HallTells: what all of the walk's worlds have.
-/
namespace Go.Proofs.Ytpehkoompadpaaa
open Go.RowKit
set_option linter.unusedVariables false
set_option linter.unusedSimpArgs false

attribute [local go_sem ↓] Go.wp_at_zero Go.wp_at_succ

theorem enter14 (args : Array Value) (W : World) : (callFunc 14 args).run Try.prog W = .ok (.enter 14 args) W := by go_simp
theorem enter15 (args : Array Value) (W : World) : (callFunc 15 args).run Try.prog W = .ok (.enter 15 args) W := by go_simp

/-- What all of the walk's worlds have. -/
structure EK (b : Nat) (v : Value) (h : HD) (pv bv : Value) (n : ND) (tn : Int) (tq : ByteArray) (id turn : Int) (W : World) : Prop where
  k0 : Blk W b [v, .int .i64 h.next]
  k1 : Blk W (b + 1) [pv, bv]
  k2 : Blk W (b + 1 + 1) [.int .i64 tn, .string tq, .int .i64 id, .int .i64 turn]
  q : SliceQ (Under W.heap.size) W v h.queues
  n : NoteIs (Under W.heap.size) W (pv, bv) n

theorem plain_small {qs : List QD} (h : smallQ qs) : smallQ (qs.map plainQ) := by
  refine ⟨by simpa using h.1, fun q hq => ?_⟩
  simp only [List.mem_map] at hq
  obtain ⟨x, hx, rfl⟩ := hq
  have := h.2 x hx
  refine ⟨by simpa [plainQ] using this.1, fun i hi => ?_⟩
  simp only [plainQ, List.mem_map] at hi
  obtain ⟨y, hy, rfl⟩ := hi
  exact this.2 y hy

theorem EK.on {b : Nat} {v : Value} {h : HD} {pv bv : Value} {n : ND} {tn : Int} {tq : ByteArray} {id turn : Int} {W W' : World} (k : EK b v h pv bv n tn tq id turn W) (hb : Below W.heap.size W W') : EK b v h pv bv n tn tq id turn W' :=
  ⟨k.k0.below hb k.k0.lt, k.k1.below hb k.k1.lt, k.k2.below hb k.k2.lt, k.q.sub fun b h => ⟨Nat.lt_of_lt_of_le h hb.size, hb.block b h⟩, k.n.sub fun b h => ⟨Nat.lt_of_lt_of_le h hb.size, hb.block b h⟩⟩

theorem EK.new (w : World) (v : Value) (h : HD) (pv bv : Value) (n : ND) (tn : Int) (tq : ByteArray) (id turn : Int) (hv : SliceQ (Under w.heap.size) w v h.queues) (hn : NoteIs (Under w.heap.size) w (pv, bv) n) :
    EK w.heap.size v h pv bv n tn tq id turn (((w.alloc (.cells #[v, .int .i64 h.next] 24)).alloc (.cells #[pv, bv] 28)).alloc (.cells #[.int .i64 tn, .string tq, .int .i64 id, .int .i64 turn] 30)) := by
  have hb : Below w.heap.size w (((w.alloc (.cells #[v, .int .i64 h.next] 24)).alloc (.cells #[pv, bv] 28)).alloc (.cells #[.int .i64 tn, .string tq, .int .i64 id, .int .i64 turn] 30)) := ((below_alloc _ _).alloc (by simp) _).alloc (by simp; omega) _
  have h1 := Blk.new (w.alloc (.cells #[v, .int .i64 h.next] 24)) [pv, bv] 28
  have h2 := Blk.new ((w.alloc (.cells #[v, .int .i64 h.next] 24)).alloc (.cells #[pv, bv] 28)) [.int .i64 tn, .string tq, .int .i64 id, .int .i64 turn] 30
  simp only [World.size_alloc] at h1 h2
  exact ⟨((Blk.new w [v, .int .i64 h.next] 24).alloc _).alloc _, h1.alloc _, h2, hv.sub fun b h => ⟨Nat.lt_of_lt_of_le h hb.size, hb.block b h⟩, hn.sub fun b h => ⟨Nat.lt_of_lt_of_le h hb.size, hb.block b h⟩⟩

end Go.Proofs.Ytpehkoompadpaaa

/-
  tglaw4.HallTells, the statement of region 7: what it leaves.
-/
namespace Go.Proofs.Ytpehkoompadpaaa
open Go.RowKit
set_option linter.unusedVariables false
set_option linter.unusedSimpArgs false
attribute [local go_sem ↓] Go.wp_at_zero Go.wp_at_succ

set_option maxRecDepth 100000 in
set_option maxHeartbeats 4000000 in
theorem ht7 {w Y Wc : World} {h : HD} {name : ByteArray} {nn : Int} {n : ND} {tn : Int} {tq : ByteArray} {id turn : Int} {va pa ba : Option Addr} {vc pc bc okb : Nat} {r7 : HD × List ED × Int} (P7 : Hid (Both 17 18 h [.string name, .int .i64 nn] r7)) (KY : Hid (∀ W, Below Y.heap.size Y W → EK w.heap.size (.slice va h.queues.length vc) h (.slice pa n.props.length pc) (.slice ba n.body.length bc) n tn tq id turn W ∧ Blk W okb [.bool true])) (C : Hid (Below Y.heap.size Y Wc)) {x0 x3 x4 x5 x7 x8 x11 x12 x15 x16 x17 x18 x19 x20 x21 x22 x23 x24 x25 x26 x27 x28 x29 x30 x31 x32 x33 x34 x35 x36 x37 x38 x39 x40 x41 x42 x43 x44 x45 x46 x47 x48 x49 x50 x51 x52 x53 x54 x55 x56 x57 x58 x59 x60 x61 x62 x63 x64 x65 x66 x67 x68 x69 x70 x71 x72 x73 x74 x75 x76 x77 x78 x79 x80 x81 x82 x83 x84 x85 x86 x87 x88 x89 x90 x91 x92 x93 x94 x95 x96 x97 x98 x99 x100 x101 x102 x103 x104 x105 x106 x107 x108 x109 x110 x111 x112 x113 x114 x115 x116 x117 x118 x119 x120 x121 x122 x123 x124 x125 x126 x127 x128 x129 x130 x131 x132 x133 x134 x135 x136 x137 x138 x139 x140 x141 x142 x143 x144 x145 x146 x147 x148 x149 x150 x151 x152 x153 x154 x155 x156 x157 x158 x159 x160 x161 x162 x163 x164 x165 x166 x167 x168 x169 x170 x171 x172 x173 x174 x175 x176 x177 x178 x179 x180 x181 x182 x183 x184 x185 x186 x187 x188 x189 x190 x191 x192 x193 x194 x195 x196 x197 x198 x199 x200 x201 x202 x203 : Value} {K : Act → World → Prop} {Q' : Exit → Act → World → Prop}
    (hK : ∀ (u59 u60 u61 u62 u63 u64 u65 u66 u67 u68 u69 u70 u71 u72 u73 u74 u75 : Value) (wx : World), Below Wc.heap.size Wc wx → K ⟨(x0 :: .string name :: .int .i64 nn :: x3 :: x4 :: x5 :: .pointer (some ⟨w.heap.size, 0, none⟩) :: x7 :: x8 :: .pointer (some ⟨w.heap.size + 1, 0, none⟩) :: .pointer (some ⟨w.heap.size + 1 + 1, 0, none⟩) :: x11 :: x12 :: .pointer (some ⟨okb, 0, none⟩) :: .func (.func 14) #[] #[.pointer (some ⟨okb, 0, none⟩)] :: x15 :: x16 :: x17 :: x18 :: x19 :: x20 :: x21 :: x22 :: x23 :: x24 :: x25 :: x26 :: x27 :: x28 :: x29 :: x30 :: x31 :: x32 :: x33 :: x34 :: x35 :: x36 :: x37 :: x38 :: x39 :: x40 :: x41 :: x42 :: x43 :: x44 :: x45 :: x46 :: x47 :: x48 :: x49 :: x50 :: x51 :: x52 :: x53 :: x54 :: x55 :: x56 :: x57 :: x58 :: u59 :: u60 :: u61 :: u62 :: u63 :: u64 :: u65 :: u66 :: u67 :: u68 :: u69 :: u70 :: u71 :: u72 :: u73 :: u74 :: u75 :: x76 :: x77 :: x78 :: x79 :: x80 :: x81 :: x82 :: x83 :: x84 :: x85 :: x86 :: x87 :: x88 :: x89 :: x90 :: x91 :: x92 :: x93 :: x94 :: x95 :: x96 :: x97 :: x98 :: x99 :: x100 :: x101 :: x102 :: x103 :: x104 :: x105 :: x106 :: x107 :: x108 :: x109 :: x110 :: x111 :: x112 :: x113 :: x114 :: x115 :: x116 :: x117 :: x118 :: x119 :: x120 :: x121 :: x122 :: x123 :: x124 :: x125 :: x126 :: x127 :: x128 :: x129 :: x130 :: x131 :: x132 :: x133 :: x134 :: x135 :: x136 :: x137 :: x138 :: x139 :: x140 :: x141 :: x142 :: x143 :: x144 :: x145 :: x146 :: x147 :: x148 :: x149 :: x150 :: x151 :: x152 :: x153 :: x154 :: x155 :: x156 :: x157 :: x158 :: x159 :: x160 :: x161 :: x162 :: x163 :: x164 :: x165 :: x166 :: x167 :: x168 :: x169 :: x170 :: x171 :: x172 :: x173 :: x174 :: x175 :: x176 :: x177 :: x178 :: x179 :: x180 :: x181 :: x182 :: x183 :: x184 :: x185 :: x186 :: x187 :: x188 :: x189 :: x190 :: x191 :: x192 :: x193 :: x194 :: x195 :: x196 :: x197 :: x198 :: x199 :: x200 :: x201 :: x202 :: x203 :: []).toArray, []⟩ wx) :
    ∀ c, stmtAt 5 Try.f3 = some c → Code.wp Try.prog c (Exit.then K Q') ⟨(x0 :: .string name :: .int .i64 nn :: x3 :: x4 :: x5 :: .pointer (some ⟨w.heap.size, 0, none⟩) :: x7 :: x8 :: .pointer (some ⟨w.heap.size + 1, 0, none⟩) :: .pointer (some ⟨w.heap.size + 1 + 1, 0, none⟩) :: x11 :: x12 :: .pointer (some ⟨okb, 0, none⟩) :: .func (.func 14) #[] #[.pointer (some ⟨okb, 0, none⟩)] :: x15 :: x16 :: x17 :: x18 :: x19 :: x20 :: x21 :: x22 :: x23 :: x24 :: x25 :: x26 :: x27 :: x28 :: x29 :: x30 :: x31 :: x32 :: x33 :: x34 :: x35 :: x36 :: x37 :: x38 :: x39 :: x40 :: x41 :: x42 :: x43 :: x44 :: x45 :: x46 :: x47 :: x48 :: x49 :: x50 :: x51 :: x52 :: x53 :: x54 :: x55 :: x56 :: x57 :: x58 :: x59 :: x60 :: x61 :: x62 :: x63 :: x64 :: x65 :: x66 :: x67 :: x68 :: x69 :: x70 :: x71 :: x72 :: x73 :: x74 :: x75 :: x76 :: x77 :: x78 :: x79 :: x80 :: x81 :: x82 :: x83 :: x84 :: x85 :: x86 :: x87 :: x88 :: x89 :: x90 :: x91 :: x92 :: x93 :: x94 :: x95 :: x96 :: x97 :: x98 :: x99 :: x100 :: x101 :: x102 :: x103 :: x104 :: x105 :: x106 :: x107 :: x108 :: x109 :: x110 :: x111 :: x112 :: x113 :: x114 :: x115 :: x116 :: x117 :: x118 :: x119 :: x120 :: x121 :: x122 :: x123 :: x124 :: x125 :: x126 :: x127 :: x128 :: x129 :: x130 :: x131 :: x132 :: x133 :: x134 :: x135 :: x136 :: x137 :: x138 :: x139 :: x140 :: x141 :: x142 :: x143 :: x144 :: x145 :: x146 :: x147 :: x148 :: x149 :: x150 :: x151 :: x152 :: x153 :: x154 :: x155 :: x156 :: x157 :: x158 :: x159 :: x160 :: x161 :: x162 :: x163 :: x164 :: x165 :: x166 :: x167 :: x168 :: x169 :: x170 :: x171 :: x172 :: x173 :: x174 :: x175 :: x176 :: x177 :: x178 :: x179 :: x180 :: x181 :: x182 :: x183 :: x184 :: x185 :: x186 :: x187 :: x188 :: x189 :: x190 :: x191 :: x192 :: x193 :: x194 :: x195 :: x196 :: x197 :: x198 :: x199 :: x200 :: x201 :: x202 :: x203 :: []).toArray, []⟩ Wc := by
  refine all_of rfl ?_
  have HK : Hid _ := hK
  clear hK
  obtain ⟨a0, a1, a2, a3⟩ := (KY.out _ C.out).1.k0.b2
  have hC := C.out.size
  go_upto_region 7 with fail
  go_region_held3 (fun w' => w'.cell? ⟨w.heap.size, 0, none⟩ = some (.slice va h.queues.length vc) ∧ w'.cell? ⟨w.heap.size, 1, none⟩ = some (.int .i64 h.next)) (go_keep) (first
    | (go_at_call 17; refine (P7.out.2 _ _ ?_).1.mono ?_; (exact ((KY.out _ C.out).1.q).sub fun b hb => ⟨hb, rfl⟩); rintro e x1 ⟨va1, vc1, ea1, ec1, rfl, hq1, he1, hb1⟩; have hbn : Below Wc.heap.size Wc x1 := ⟨hb1.os, hb1.tape, hb1.output, hb1.size, hb1.block⟩; have c0 := bel_c hbn a3 a0; have c1 := bel_c hbn a3 a1; have A7 : Hid (Below Wc.heap.size Wc x1 ∧ SliceQ (Under x1.heap.size) x1 (.slice va1 r7.1.queues.length vc1) r7.1.queues ∧ SliceE (Under x1.heap.size) x1 (.slice ea1 r7.2.1.length ec1) r7.2.1) := ⟨hbn, hq1, he1⟩; clear hq1 he1 hb1 hbn)
    | (go_at_call 14; refine (same1_any okb va1 _ vc1 _ ea1 _ ec1 _ _).mono ?_; rintro e x2 ⟨rfl, k1, k2, k3, hb2⟩; have hb2' : Below x1.heap.size x1 x2 := ⟨hb2.os, hb2.tape, hb2.output, hb2.size, hb2.block⟩; have hbn : Below Wc.heap.size Wc x2 := A7.out.1.trans (hb2'.mono A7.out.1.size); have d0 := bel_c hbn a3 a0; have d1 := bel_c hbn a3 a1; have D7 : Hid (Below Wc.heap.size Wc x2 ∧ SliceQ (Under x2.heap.size) x2 (.slice va1 r7.1.queues.length vc1) r7.1.queues ∧ SliceE (Under x2.heap.size) x2 (.slice ea1 r7.2.1.length ec1) r7.2.1 ∧ Blk x2 x1.heap.size [.slice va1 r7.1.queues.length vc1, .int .i64 r7.1.next] ∧ Blk x2 (x1.heap.size + 1) [.slice ea1 r7.2.1.length ec1] ∧ Blk x2 (x1.heap.size + 1 + 1) [.int .i64 r7.2.2]) := ⟨hbn, A7.out.2.1.up' hb2', A7.out.2.2.up' hb2', k1, k2, k3⟩; clear hb2 hb2' hbn k1 k2 k3)
    | (go_at_call 18; refine (P7.out.2 _ _ ?_).2.mono ?_; (exact ((KY.out _ (C.out.trans (D7.out.1.mono hC))).1.q).sub fun b hb => ⟨hb, rfl⟩); rintro e x3 ⟨va3, vc3, ea3, ec3, rfl, hq3, he3, hb3⟩; have hb3' : Below x2.heap.size x2 x3 := ⟨hb3.os, hb3.tape, hb3.output, hb3.size, hb3.block⟩; have hbn : Below Wc.heap.size Wc x3 := D7.out.1.trans (hb3'.mono D7.out.1.size); have e0 := bel_c hbn a3 a0; have e1 := bel_c hbn a3 a1; have E7 : Hid (Below Wc.heap.size Wc x3 ∧ Below x2.heap.size x2 x3 ∧ SliceQ (Under x3.heap.size) x3 (.slice va3 r7.1.queues.length vc3) r7.1.queues ∧ SliceE (Under x3.heap.size) x3 (.slice ea3 r7.2.1.length ec3) r7.2.1) := ⟨hbn, hb3', hq3, he3⟩; clear hb3 hb3' hbn hq3 he3)
    | (go_at_call 15; refine (same2_any okb (x1.heap.size + 1 + 1) x1.heap.size (x1.heap.size + 1) r7.1 P7.out.1.1 r7.2.1 P7.out.1.2 r7.2.2 (.slice va1 r7.1.queues.length vc1) (.slice ea1 r7.2.1.length ec1) _ _ _ ?_ ?_ ?_ ?_ ?_ ?_ ?_ ?_).mono ?_; (exact (KY.out _ (C.out.trans (E7.out.1.mono hC))).2); (exact D7.out.2.2.2.2.2.below E7.out.2.1 D7.out.2.2.2.2.2.lt); (exact D7.out.2.2.2.1.below E7.out.2.1 D7.out.2.2.2.1.lt); (exact D7.out.2.2.2.2.1.below E7.out.2.1 D7.out.2.2.2.2.1.lt); (exact (D7.out.2.1.up' E7.out.2.1).sub fun b hb => ⟨hb, rfl⟩); (exact E7.out.2.2.1.sub fun b hb => ⟨hb, rfl⟩); (exact (D7.out.2.2.1.up' E7.out.2.1).sub fun b hb => ⟨hb, rfl⟩); (exact E7.out.2.2.2.sub fun b hb => ⟨hb, rfl⟩); rintro e x4 ⟨⟨xx, rfl⟩, hb4⟩; have hbn : Below Wc.heap.size Wc x4 := E7.out.1.trans (Below.mono ⟨hb4.os, hb4.tape, hb4.output, hb4.size, hb4.block⟩ E7.out.1.size); have f0 := bel_c hbn a3 a0; have f1 := bel_c hbn a3 a1; have G7 : Hid (Below Wc.heap.size Wc x4) := hbn; clear hb4 hbn))
  all_goals
    go_wp2_with fail
    exact HK.out _ _ _ _ _ _ _ _ _ _ _ _ _ _ _ _ _ _ G7.out
end Go.Proofs.Ytpehkoompadpaaa

/-
  tglaw4.HallTells, the statement of region 8: what it leaves.
-/
namespace Go.Proofs.Ytpehkoompadpaaa
open Go.RowKit
set_option linter.unusedVariables false
set_option linter.unusedSimpArgs false
attribute [local go_sem ↓] Go.wp_at_zero Go.wp_at_succ

set_option maxRecDepth 100000 in
set_option maxHeartbeats 4000000 in
theorem ht8 {w Y Wc : World} {h : HD} {name : ByteArray} {nn : Int} {n : ND} {tn : Int} {tq : ByteArray} {id turn : Int} {va pa ba : Option Addr} {vc pc bc okb : Nat} {r8 : HD × List ED × Int} (P8 : Hid (Both 19 20 h [.string name] r8)) (KY : Hid (∀ W, Below Y.heap.size Y W → EK w.heap.size (.slice va h.queues.length vc) h (.slice pa n.props.length pc) (.slice ba n.body.length bc) n tn tq id turn W ∧ Blk W okb [.bool true])) (C : Hid (Below Y.heap.size Y Wc)) {x0 x3 x4 x5 x7 x8 x11 x12 x15 x16 x17 x18 x19 x20 x21 x22 x23 x24 x25 x26 x27 x28 x29 x30 x31 x32 x33 x34 x35 x36 x37 x38 x39 x40 x41 x42 x43 x44 x45 x46 x47 x48 x49 x50 x51 x52 x53 x54 x55 x56 x57 x58 x59 x60 x61 x62 x63 x64 x65 x66 x67 x68 x69 x70 x71 x72 x73 x74 x75 x76 x77 x78 x79 x80 x81 x82 x83 x84 x85 x86 x87 x88 x89 x90 x91 x92 x93 x94 x95 x96 x97 x98 x99 x100 x101 x102 x103 x104 x105 x106 x107 x108 x109 x110 x111 x112 x113 x114 x115 x116 x117 x118 x119 x120 x121 x122 x123 x124 x125 x126 x127 x128 x129 x130 x131 x132 x133 x134 x135 x136 x137 x138 x139 x140 x141 x142 x143 x144 x145 x146 x147 x148 x149 x150 x151 x152 x153 x154 x155 x156 x157 x158 x159 x160 x161 x162 x163 x164 x165 x166 x167 x168 x169 x170 x171 x172 x173 x174 x175 x176 x177 x178 x179 x180 x181 x182 x183 x184 x185 x186 x187 x188 x189 x190 x191 x192 x193 x194 x195 x196 x197 x198 x199 x200 x201 x202 x203 : Value} {K : Act → World → Prop} {Q' : Exit → Act → World → Prop}
    (hK : ∀ (u76 u77 u78 u79 u80 u81 u82 u83 u84 u85 u86 u87 u88 u89 u90 : Value) (wx : World), Below Wc.heap.size Wc wx → K ⟨(x0 :: .string name :: .int .i64 nn :: x3 :: x4 :: x5 :: .pointer (some ⟨w.heap.size, 0, none⟩) :: x7 :: x8 :: .pointer (some ⟨w.heap.size + 1, 0, none⟩) :: .pointer (some ⟨w.heap.size + 1 + 1, 0, none⟩) :: x11 :: x12 :: .pointer (some ⟨okb, 0, none⟩) :: .func (.func 14) #[] #[.pointer (some ⟨okb, 0, none⟩)] :: x15 :: x16 :: x17 :: x18 :: x19 :: x20 :: x21 :: x22 :: x23 :: x24 :: x25 :: x26 :: x27 :: x28 :: x29 :: x30 :: x31 :: x32 :: x33 :: x34 :: x35 :: x36 :: x37 :: x38 :: x39 :: x40 :: x41 :: x42 :: x43 :: x44 :: x45 :: x46 :: x47 :: x48 :: x49 :: x50 :: x51 :: x52 :: x53 :: x54 :: x55 :: x56 :: x57 :: x58 :: x59 :: x60 :: x61 :: x62 :: x63 :: x64 :: x65 :: x66 :: x67 :: x68 :: x69 :: x70 :: x71 :: x72 :: x73 :: x74 :: x75 :: u76 :: u77 :: u78 :: u79 :: u80 :: u81 :: u82 :: u83 :: u84 :: u85 :: u86 :: u87 :: u88 :: u89 :: u90 :: x91 :: x92 :: x93 :: x94 :: x95 :: x96 :: x97 :: x98 :: x99 :: x100 :: x101 :: x102 :: x103 :: x104 :: x105 :: x106 :: x107 :: x108 :: x109 :: x110 :: x111 :: x112 :: x113 :: x114 :: x115 :: x116 :: x117 :: x118 :: x119 :: x120 :: x121 :: x122 :: x123 :: x124 :: x125 :: x126 :: x127 :: x128 :: x129 :: x130 :: x131 :: x132 :: x133 :: x134 :: x135 :: x136 :: x137 :: x138 :: x139 :: x140 :: x141 :: x142 :: x143 :: x144 :: x145 :: x146 :: x147 :: x148 :: x149 :: x150 :: x151 :: x152 :: x153 :: x154 :: x155 :: x156 :: x157 :: x158 :: x159 :: x160 :: x161 :: x162 :: x163 :: x164 :: x165 :: x166 :: x167 :: x168 :: x169 :: x170 :: x171 :: x172 :: x173 :: x174 :: x175 :: x176 :: x177 :: x178 :: x179 :: x180 :: x181 :: x182 :: x183 :: x184 :: x185 :: x186 :: x187 :: x188 :: x189 :: x190 :: x191 :: x192 :: x193 :: x194 :: x195 :: x196 :: x197 :: x198 :: x199 :: x200 :: x201 :: x202 :: x203 :: []).toArray, []⟩ wx) :
    ∀ c, stmtAt 6 Try.f3 = some c → Code.wp Try.prog c (Exit.then K Q') ⟨(x0 :: .string name :: .int .i64 nn :: x3 :: x4 :: x5 :: .pointer (some ⟨w.heap.size, 0, none⟩) :: x7 :: x8 :: .pointer (some ⟨w.heap.size + 1, 0, none⟩) :: .pointer (some ⟨w.heap.size + 1 + 1, 0, none⟩) :: x11 :: x12 :: .pointer (some ⟨okb, 0, none⟩) :: .func (.func 14) #[] #[.pointer (some ⟨okb, 0, none⟩)] :: x15 :: x16 :: x17 :: x18 :: x19 :: x20 :: x21 :: x22 :: x23 :: x24 :: x25 :: x26 :: x27 :: x28 :: x29 :: x30 :: x31 :: x32 :: x33 :: x34 :: x35 :: x36 :: x37 :: x38 :: x39 :: x40 :: x41 :: x42 :: x43 :: x44 :: x45 :: x46 :: x47 :: x48 :: x49 :: x50 :: x51 :: x52 :: x53 :: x54 :: x55 :: x56 :: x57 :: x58 :: x59 :: x60 :: x61 :: x62 :: x63 :: x64 :: x65 :: x66 :: x67 :: x68 :: x69 :: x70 :: x71 :: x72 :: x73 :: x74 :: x75 :: x76 :: x77 :: x78 :: x79 :: x80 :: x81 :: x82 :: x83 :: x84 :: x85 :: x86 :: x87 :: x88 :: x89 :: x90 :: x91 :: x92 :: x93 :: x94 :: x95 :: x96 :: x97 :: x98 :: x99 :: x100 :: x101 :: x102 :: x103 :: x104 :: x105 :: x106 :: x107 :: x108 :: x109 :: x110 :: x111 :: x112 :: x113 :: x114 :: x115 :: x116 :: x117 :: x118 :: x119 :: x120 :: x121 :: x122 :: x123 :: x124 :: x125 :: x126 :: x127 :: x128 :: x129 :: x130 :: x131 :: x132 :: x133 :: x134 :: x135 :: x136 :: x137 :: x138 :: x139 :: x140 :: x141 :: x142 :: x143 :: x144 :: x145 :: x146 :: x147 :: x148 :: x149 :: x150 :: x151 :: x152 :: x153 :: x154 :: x155 :: x156 :: x157 :: x158 :: x159 :: x160 :: x161 :: x162 :: x163 :: x164 :: x165 :: x166 :: x167 :: x168 :: x169 :: x170 :: x171 :: x172 :: x173 :: x174 :: x175 :: x176 :: x177 :: x178 :: x179 :: x180 :: x181 :: x182 :: x183 :: x184 :: x185 :: x186 :: x187 :: x188 :: x189 :: x190 :: x191 :: x192 :: x193 :: x194 :: x195 :: x196 :: x197 :: x198 :: x199 :: x200 :: x201 :: x202 :: x203 :: []).toArray, []⟩ Wc := by
  refine all_of rfl ?_
  have HK : Hid _ := hK
  clear hK
  obtain ⟨a0, a1, a2, a3⟩ := (KY.out _ C.out).1.k0.b2
  have hC := C.out.size
  go_upto_region 8 with fail
  go_region_held3 (fun w' => w'.cell? ⟨w.heap.size, 0, none⟩ = some (.slice va h.queues.length vc) ∧ w'.cell? ⟨w.heap.size, 1, none⟩ = some (.int .i64 h.next)) (go_keep) (first
    | (go_at_call 19; refine (P8.out.2 _ _ ?_).1.mono ?_; (exact ((KY.out _ C.out).1.q).sub fun b hb => ⟨hb, rfl⟩); rintro e x1 ⟨va1, vc1, ea1, ec1, rfl, hq1, he1, hb1⟩; have hbn : Below Wc.heap.size Wc x1 := ⟨hb1.os, hb1.tape, hb1.output, hb1.size, hb1.block⟩; have c0 := bel_c hbn a3 a0; have c1 := bel_c hbn a3 a1; have A8 : Hid (Below Wc.heap.size Wc x1 ∧ SliceQ (Under x1.heap.size) x1 (.slice va1 r8.1.queues.length vc1) r8.1.queues ∧ SliceE (Under x1.heap.size) x1 (.slice ea1 r8.2.1.length ec1) r8.2.1) := ⟨hbn, hq1, he1⟩; clear hq1 he1 hb1 hbn)
    | (go_at_call 14; refine (same1_any okb va1 _ vc1 _ ea1 _ ec1 _ _).mono ?_; rintro e x2 ⟨rfl, k1, k2, k3, hb2⟩; have hb2' : Below x1.heap.size x1 x2 := ⟨hb2.os, hb2.tape, hb2.output, hb2.size, hb2.block⟩; have hbn : Below Wc.heap.size Wc x2 := A8.out.1.trans (hb2'.mono A8.out.1.size); have d0 := bel_c hbn a3 a0; have d1 := bel_c hbn a3 a1; have D8 : Hid (Below Wc.heap.size Wc x2 ∧ SliceQ (Under x2.heap.size) x2 (.slice va1 r8.1.queues.length vc1) r8.1.queues ∧ SliceE (Under x2.heap.size) x2 (.slice ea1 r8.2.1.length ec1) r8.2.1 ∧ Blk x2 x1.heap.size [.slice va1 r8.1.queues.length vc1, .int .i64 r8.1.next] ∧ Blk x2 (x1.heap.size + 1) [.slice ea1 r8.2.1.length ec1] ∧ Blk x2 (x1.heap.size + 1 + 1) [.int .i64 r8.2.2]) := ⟨hbn, A8.out.2.1.up' hb2', A8.out.2.2.up' hb2', k1, k2, k3⟩; clear hb2 hb2' hbn k1 k2 k3)
    | (go_at_call 20; refine (P8.out.2 _ _ ?_).2.mono ?_; (exact ((KY.out _ (C.out.trans (D8.out.1.mono hC))).1.q).sub fun b hb => ⟨hb, rfl⟩); rintro e x3 ⟨va3, vc3, ea3, ec3, rfl, hq3, he3, hb3⟩; have hb3' : Below x2.heap.size x2 x3 := ⟨hb3.os, hb3.tape, hb3.output, hb3.size, hb3.block⟩; have hbn : Below Wc.heap.size Wc x3 := D8.out.1.trans (hb3'.mono D8.out.1.size); have e0 := bel_c hbn a3 a0; have e1 := bel_c hbn a3 a1; have E8 : Hid (Below Wc.heap.size Wc x3 ∧ Below x2.heap.size x2 x3 ∧ SliceQ (Under x3.heap.size) x3 (.slice va3 r8.1.queues.length vc3) r8.1.queues ∧ SliceE (Under x3.heap.size) x3 (.slice ea3 r8.2.1.length ec3) r8.2.1) := ⟨hbn, hb3', hq3, he3⟩; clear hb3 hb3' hbn hq3 he3)
    | (go_at_call 15; refine (same2_any okb (x1.heap.size + 1 + 1) x1.heap.size (x1.heap.size + 1) r8.1 P8.out.1.1 r8.2.1 P8.out.1.2 r8.2.2 (.slice va1 r8.1.queues.length vc1) (.slice ea1 r8.2.1.length ec1) _ _ _ ?_ ?_ ?_ ?_ ?_ ?_ ?_ ?_).mono ?_; (exact (KY.out _ (C.out.trans (E8.out.1.mono hC))).2); (exact D8.out.2.2.2.2.2.below E8.out.2.1 D8.out.2.2.2.2.2.lt); (exact D8.out.2.2.2.1.below E8.out.2.1 D8.out.2.2.2.1.lt); (exact D8.out.2.2.2.2.1.below E8.out.2.1 D8.out.2.2.2.2.1.lt); (exact (D8.out.2.1.up' E8.out.2.1).sub fun b hb => ⟨hb, rfl⟩); (exact E8.out.2.2.1.sub fun b hb => ⟨hb, rfl⟩); (exact (D8.out.2.2.1.up' E8.out.2.1).sub fun b hb => ⟨hb, rfl⟩); (exact E8.out.2.2.2.sub fun b hb => ⟨hb, rfl⟩); rintro e x4 ⟨⟨xx, rfl⟩, hb4⟩; have hbn : Below Wc.heap.size Wc x4 := E8.out.1.trans (Below.mono ⟨hb4.os, hb4.tape, hb4.output, hb4.size, hb4.block⟩ E8.out.1.size); have f0 := bel_c hbn a3 a0; have f1 := bel_c hbn a3 a1; have G8 : Hid (Below Wc.heap.size Wc x4) := hbn; clear hb4 hbn))
  all_goals
    go_wp2_with fail
    exact HK.out _ _ _ _ _ _ _ _ _ _ _ _ _ _ _ _ G8.out
end Go.Proofs.Ytpehkoompadpaaa

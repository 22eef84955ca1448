/- RecordSame: two states made at once. RecordSame: from region 5 on. RecordSame: the law. -/
import Derived.Test.YtpbdamnlfpfclaaSl1
section
namespace Go.Proofs.Ytpbdamnlfpfclaa
open Go.RowKit
attribute [local irreducible] wpQuiet
set_option linter.unusedSimpArgs false
set_option linter.unusedVariables false

/-- None of these slices lies in that block. -/
structure Far (y1 y2 y3 y4 : Value) (c : Nat) : Prop where
  f1 : y1.ownBlock ≠ some c
  f2 : y2.ownBlock ≠ some c
  f3 : y3.ownBlock ≠ some c
  f4 : y4.ownBlock ≠ some c
theorem far_low {w : World} {B c : Nat} {s : St} {y1 y2 y3 y4 : Value} (h : OwS w B s y1 y2 y3 y4) (hc : c < B) : Far y1 y2 y3 y4 c := ⟨own_not h.o1 hc, own_not h.o2 hc, own_not h.o3 hc, own_not h.o4 hc⟩
theorem far_high {w : World} {B c : Nat} {s : St} {y1 y2 y3 y4 : Value} (h : OwS w B s y1 y2 y3 y4) (hc : w.heap.size ≤ c) : Far y1 y2 y3 y4 c :=
  ⟨fun e => by have := (h.o1.lt c e).2; omega, fun e => by have := (h.o2.lt c e).2; omega, fun e => by have := (h.o3.lt c e).2; omega, fun e => by have := (h.o4.lt c e).2; omega⟩
theorem ows_mono {w : World} {B B' : Nat} {s : St} {y1 y2 y3 y4 : Value} (h : OwS w B s y1 y2 y3 y4) (hB : B' ≤ B) : OwS w B' s y1 y2 y3 y4 := ⟨h.o1.mono hB, h.o2.mono hB, h.o3.mono hB, h.o4.mono hB, h.few⟩
theorem ptr_inj {a b : Nat} (h : (Value.pointer (some ⟨a, 0, none⟩)) = .pointer (some ⟨b, 0, none⟩)) : a = b := by
  injection h with h
  injection h with h
  injection h
/-- The world, while two states are made and their places, too. -/
structure T3W (wb : World) (t tB : St) (L1 L3 L4 L5 L6 L7 : Bool) (v27 v29 v7 v8 : Value) (w : World) : Prop where
  below : Below wb.heap.size wb w
  p27 : L1 = true → ∃ y1 y2 y3 y4, v27 = stV t y1 y2 y3 y4 ∧ OwS w wb.heap.size t y1 y2 y3 y4 ∧ (L4 = true → ∀ c, v7 = .pointer (some ⟨c, 0, none⟩) → Far y1 y2 y3 y4 c) ∧ (L5 = true → ∀ c, v8 = .pointer (some ⟨c, 0, none⟩) → Far y1 y2 y3 y4 c)
  p29 : L3 = true → ∃ y1 y2 y3 y4, v29 = stV tB y1 y2 y3 y4 ∧ OwS w wb.heap.size tB y1 y2 y3 y4 ∧ (L4 = true → ∀ c, v7 = .pointer (some ⟨c, 0, none⟩) → Far y1 y2 y3 y4 c) ∧ (L5 = true → ∀ c, v8 = .pointer (some ⟨c, 0, none⟩) → Far y1 y2 y3 y4 c)
  q7 : L4 = true → ∃ c cs, v7 = .pointer (some ⟨c, 0, none⟩) ∧ wb.heap.size ≤ c ∧ cs.size = 25 ∧ Blk w c cs 41 ∧ (L6 = true → v27 = .agg cs)
  q8 : L5 = true → ∃ c cs, v8 = .pointer (some ⟨c, 0, none⟩) ∧ wb.heap.size ≤ c ∧ cs.size = 25 ∧ Blk w c cs 41 ∧ (L7 = true → v29 = .agg cs)
  d : L4 = true → L5 = true → v7 ≠ v8
  o6 : L6 = true → L1 = true ∧ L4 = true
  o7 : L7 = true → L3 = true ∧ L5 = true
section
variable {wb w w' : World} {t tB : St} {L1 L3 L4 L5 L6 L7 : Bool} {v27 v29 v7 v8 y1 y2 y3 y4 : Value}
theorem T3W.next (h : T3W wb t tB L1 L3 L4 L5 L6 L7 v27 v29 v7 v8 w) (hb : Below w.heap.size w w') : T3W wb t tB L1 L3 L4 L5 L6 L7 v27 v29 v7 v8 w' := by
  refine ⟨h.below.trans (hb.mono h.below.size), fun q => ?_, fun q => ?_, fun q => ?_, fun q => ?_, h.d, h.o6, h.o7⟩
  · obtain ⟨y1, y2, y3, y4, e, o, n7, n8⟩ := h.p27 q
    exact ⟨y1, y2, y3, y4, e, o.next hb, n7, n8⟩
  · obtain ⟨y1, y2, y3, y4, e, o, n7, n8⟩ := h.p29 q
    exact ⟨y1, y2, y3, y4, e, o.next hb, n7, n8⟩
  · obtain ⟨c, cs, e, h1, h2, h3, h4⟩ := h.q7 q
    exact ⟨c, cs, e, h1, h2, h3.below hb h3.lt, h4⟩
  · obtain ⟨c, cs, e, h1, h2, h3, h4⟩ := h.q8 q
    exact ⟨c, cs, e, h1, h2, h3.below hb h3.lt, h4⟩
theorem T3W.far7 (h : T3W wb t tB L1 L3 L4 L5 L6 L7 v27 v29 v7 v8 w) {s : St} (ho : OwS w' w.heap.size s y1 y2 y3 y4) : (L4 = true → ∀ c, v7 = .pointer (some ⟨c, 0, none⟩) → Far y1 y2 y3 y4 c) ∧ (L5 = true → ∀ c, v8 = .pointer (some ⟨c, 0, none⟩) → Far y1 y2 y3 y4 c) := by
  refine ⟨fun q c e => ?_, fun q c e => ?_⟩
  · obtain ⟨c', cs, e', -, -, h3, -⟩ := h.q7 q
    rw [e'] at e
    have := ptr_inj e
    subst this
    exact far_low ho h3.lt
  · obtain ⟨c', cs, e', -, -, h3, -⟩ := h.q8 q
    rw [e'] at e
    have := ptr_inj e
    subst this
    exact far_low ho h3.lt
theorem T3W.call27 (h : T3W wb t tB L1 L3 L4 L5 L6 L7 v27 v29 v7 v8 w) (hn : L1 = false) (ho : OwS w' w.heap.size t y1 y2 y3 y4) (hb : Below w.heap.size w w') : T3W wb t tB true L3 L4 L5 L6 L7 (stV t y1 y2 y3 y4) v29 v7 v8 w' := by
  have h6 : L6 = false := by cases c : L6 with | false => rfl | true => have := (h.o6 c).1; rw [hn] at this; cases this
  subst h6
  have h' := h.next hb
  refine ⟨h'.below, fun _ => ⟨y1, y2, y3, y4, rfl, ows_mono ho h.below.size, (h.far7 ho).1, (h.far7 ho).2⟩, h'.p29, fun q => ?_, h'.q8, h'.d, (fun q => Bool.noConfusion q), h'.o7⟩
  obtain ⟨c, cs, e, h1, h2, h3, h4⟩ := h'.q7 q
  exact ⟨c, cs, e, h1, h2, h3, (fun q => Bool.noConfusion q)⟩
theorem T3W.call29 (h : T3W wb t tB L1 L3 L4 L5 L6 L7 v27 v29 v7 v8 w) (hn : L3 = false) (ho : OwS w' w.heap.size tB y1 y2 y3 y4) (hb : Below w.heap.size w w') : T3W wb t tB L1 true L4 L5 L6 L7 v27 (stV tB y1 y2 y3 y4) v7 v8 w' := by
  have h7 : L7 = false := by cases c : L7 with | false => rfl | true => have := (h.o7 c).1; rw [hn] at this; cases this
  subst h7
  have h' := h.next hb
  refine ⟨h'.below, h'.p27, fun _ => ⟨y1, y2, y3, y4, rfl, ows_mono ho h.below.size, (h.far7 ho).1, (h.far7 ho).2⟩, h'.q7, fun q => ?_, h'.d, h'.o6, (fun q => Bool.noConfusion q)⟩
  obtain ⟨c, cs, e, h1, h2, h3, h4⟩ := h'.q8 q
  exact ⟨c, cs, e, h1, h2, h3, (fun q => Bool.noConfusion q)⟩
theorem T3W.alloc7 (h : T3W wb t tB L1 L3 L4 L5 L6 L7 v27 v29 v7 v8 w) (hn : L4 = false) : T3W wb t tB L1 L3 true L5 L6 L7 v27 v29 (.pointer (some ⟨w.heap.size, 0, none⟩)) v8 (w.alloc (.cells nil25 41)) := by
  have h6 : L6 = false := by cases c : L6 with | false => rfl | true => have := (h.o6 c).2; rw [hn] at this; cases this
  subst h6
  have h' := h.next ((Below.refl _ _).alloc (Nat.le_refl _) (.cells nil25 41))
  refine ⟨h'.below, fun q => ?_, fun q => ?_, fun _ => ⟨w.heap.size, nil25, rfl, h.below.size, rfl, Blk.new _ _ _, (fun q => Bool.noConfusion q)⟩, h'.q8, fun _ q e => ?_, (fun q => Bool.noConfusion q), h'.o7⟩
  · obtain ⟨y1, y2, y3, y4, e, o, -, n8⟩ := h.p27 q
    exact ⟨y1, y2, y3, y4, e, o.next ((Below.refl _ _).alloc (Nat.le_refl _) _), fun _ c e => far_high o (by have := ptr_inj e; omega), n8⟩
  · obtain ⟨y1, y2, y3, y4, e, o, -, n8⟩ := h.p29 q
    exact ⟨y1, y2, y3, y4, e, o.next ((Below.refl _ _).alloc (Nat.le_refl _) _), fun _ c e => far_high o (by have := ptr_inj e; omega), n8⟩
  · obtain ⟨c, cs, e', -, -, h3, -⟩ := h.q8 q
    rw [e'] at e
    have := ptr_inj e
    have := h3.lt
    omega
theorem T3W.alloc8 (h : T3W wb t tB L1 L3 L4 L5 L6 L7 v27 v29 v7 v8 w) (hn : L5 = false) : T3W wb t tB L1 L3 L4 true L6 L7 v27 v29 v7 (.pointer (some ⟨w.heap.size, 0, none⟩)) (w.alloc (.cells nil25 41)) := by
  have h7 : L7 = false := by cases c : L7 with | false => rfl | true => have := (h.o7 c).2; rw [hn] at this; cases this
  subst h7
  have h' := h.next ((Below.refl _ _).alloc (Nat.le_refl _) (.cells nil25 41))
  refine ⟨h'.below, fun q => ?_, fun q => ?_, h'.q7, fun _ => ⟨w.heap.size, nil25, rfl, h.below.size, rfl, Blk.new _ _ _, (fun q => Bool.noConfusion q)⟩, fun q _ e => ?_, h'.o6, (fun q => Bool.noConfusion q)⟩
  · obtain ⟨y1, y2, y3, y4, e, o, n7, -⟩ := h.p27 q
    exact ⟨y1, y2, y3, y4, e, o.next ((Below.refl _ _).alloc (Nat.le_refl _) _), n7, fun _ c e => far_high o (by have := ptr_inj e; omega)⟩
  · obtain ⟨y1, y2, y3, y4, e, o, n7, -⟩ := h.p29 q
    exact ⟨y1, y2, y3, y4, e, o.next ((Below.refl _ _).alloc (Nat.le_refl _) _), n7, fun _ c e => far_high o (by have := ptr_inj e; omega)⟩
  · obtain ⟨c, cs, e', -, -, h3, -⟩ := h.q7 q
    rw [e'] at e
    have := ptr_inj e
    have := h3.lt
    omega
theorem ows_row {B c : Nat} {s : St} (h : OwS w B s y1 y2 y3 y4) (f : Far y1 y2 y3 y4 c) (A : Array Value) : OwS (w.setRow c A) B s y1 y2 y3 y4 := own_row h f.f1 f.f2 f.f3 f.f4 A
theorem T3W.store7 {c : Nat} {A cs : Array Value} (h : T3W wb t tB L1 L3 L4 L5 L6 L7 (.agg A) v29 (.pointer (some ⟨c, 0, none⟩)) v8 w) (h1 : L1 = true) (h4 : L4 = true) (hk : Blk w c cs 41) (hc : wb.heap.size ≤ c) (hs : A.size = 25) :
    T3W wb t tB L1 L3 L4 L5 true L7 (.agg A) v29 (.pointer (some ⟨c, 0, none⟩)) v8 (w.setRow c A) := by
  refine ⟨below_setRow h.below hc _, fun q => ?_, fun q => ?_, fun _ => ⟨c, A, rfl, hc, hs, hk.row _, fun _ => rfl⟩, fun q => ?_, h.d, fun _ => ⟨h1, h4⟩, h.o7⟩
  · obtain ⟨y1, y2, y3, y4, e, o, n7, n8⟩ := h.p27 q
    exact ⟨y1, y2, y3, y4, e, ows_row o (n7 h4 c rfl) A, n7, n8⟩
  · obtain ⟨y1, y2, y3, y4, e, o, n7, n8⟩ := h.p29 q
    exact ⟨y1, y2, y3, y4, e, ows_row o (n7 h4 c rfl) A, n7, n8⟩
  · obtain ⟨c', cs', e, g1, g2, g3, g4⟩ := h.q8 q
    exact ⟨c', cs', e, g1, g2, g3.rowOther (fun e2 => h.d h4 q (by rw [e, e2])) A, g4⟩
theorem T3W.store8 {c : Nat} {A cs : Array Value} (h : T3W wb t tB L1 L3 L4 L5 L6 L7 v27 (.agg A) v7 (.pointer (some ⟨c, 0, none⟩)) w) (h1 : L3 = true) (h4 : L5 = true) (hk : Blk w c cs 41) (hc : wb.heap.size ≤ c) (hs : A.size = 25) :
    T3W wb t tB L1 L3 L4 L5 L6 true v27 (.agg A) v7 (.pointer (some ⟨c, 0, none⟩)) (w.setRow c A) := by
  refine ⟨below_setRow h.below hc _, fun q => ?_, fun q => ?_, fun q => ?_, fun _ => ⟨c, A, rfl, hc, hs, hk.row _, fun _ => rfl⟩, h.d, h.o6, fun _ => ⟨h1, h4⟩⟩
  · obtain ⟨y1, y2, y3, y4, e, o, n7, n8⟩ := h.p27 q
    exact ⟨y1, y2, y3, y4, e, ows_row o (n8 h4 c rfl) A, n7, n8⟩
  · obtain ⟨y1, y2, y3, y4, e, o, n7, n8⟩ := h.p29 q
    exact ⟨y1, y2, y3, y4, e, ows_row o (n8 h4 c rfl) A, n7, n8⟩
  · obtain ⟨c', cs', e, g1, g2, g3, g4⟩ := h.q7 q
    exact ⟨c', cs', e, g1, g2, g3.rowOther (fun e2 => h.d q h4 (by rw [e, e2])) A, g4⟩
end
end Go.Proofs.Ytpbdamnlfpfclaa
end
section
namespace Go.Proofs.Ytpbdamnlfpfclaa
open Go.RowKit
attribute [local irreducible] wpQuiet wpList
set_option linter.unusedSimpArgs false
set_option linter.unusedVariables false

theorem run_pick_no {P : Program} {o : Oper} {a : Act} {w : World} (c x y : Operand) (v : Value) (ho : o.op = .pick c x y) (hc : a.eval c = .bool false) (hy : a.eval y = v) : (execOp a.eval o).run P w = .ok (.value v) w := by
  unfold execOp
  simp only [ho, hc, hy]
  simp [asBool, Sem.run_pure, Result.andThen_ok]
theorem run_pick_yes {P : Program} {o : Oper} {a : Act} {w : World} (c x y : Operand) (v : Value) (ho : o.op = .pick c x y) (hc : a.eval c = .bool true) (hy : a.eval x = v) : (execOp a.eval o).run P w = .ok (.value v) w := by
  unfold execOp
  simp only [ho, hc, hy]
  simp [asBool, Sem.run_pure, Result.andThen_ok]
theorem run_move {P : Program} {o : Oper} {a : Act} {w : World} (x : Operand) (v : Value) (ho : o.op = .move x) (hy : a.eval x = v) : (execOp a.eval o).run P w = .ok (.value v) w := by
  unfold execOp
  simp only [ho, hy]
  simp
set_option maxRecDepth 100000 in
set_option maxHeartbeats 16000000 in
theorem s5 (w0 : World) (x A7 A8 A9 : Array Value) (g p7 p8 p9 kk : Nat) (t tB : St) (z1 : Option Addr) (n1 c1 : Nat) (z2 : Option Addr) (n2 c2 : Nat) (z3 : Option Addr) (n3 c3 : Nat) (z4 : Option Addr) (n4 c4 : Nat) (a1 : Option Addr) (d1 : Nat) (b1 : Option Addr) (m1 h1 : Nat) (a2 : Option Addr) (d2 : Nat) (b2 : Option Addr) (m2 h2 : Nat) (a3 : Option Addr) (d3 : Nat) (b3 : Option Addr) (m3 h3 : Nat) (a4 : Option Addr) (d4 : Nat) (b4 : Option Addr) (m4 h4 : Nat) (HH : Hid (SmH w0 x A7 g p7 p9 kk t (.slice a1 n1 d1) (.slice a2 n2 d2) (.slice a3 n3 d3) (.slice a4 n4 d4) z1 n1 c1 z2 n2 c2 z3 n3 c3 z4 n4 c4)) (q8 : A8 = stA tB (.slice b1 m1 h1) (.slice b2 m2 h2) (.slice b3 m3 h3) (.slice b4 m4 h4)) (f0 f1 f4 f5 f6 f10 f11 f12 f13 f14 f15 f16 f17 f18 f19 f20 f21 f22 f23 f24 f25 f26 f27 f28 f29 f30 f31 f32 f33 f34 f35 f36 f37 f38 f39 f40 f41 f42 f43 f44 f45 f46 f47 f48 f49 f50 f51 f52 f53 f54 f55 f56 f57 f58 f59 f60 f61 f62 f63 f64 f65 f66 f67 f68 f69 f70 f71 f72 f73 f74 f75 f76 f77 f78 f79 f80 f81 f82 f83 f84 f85 f86 f87 f88 f89 f90 f91 f92 f93 f94 f95 f96 f97 f98 f99 f100 f101 f102 f103 f104 f105 f106 f107 f108 f109 f110 f111 f112 f113 f114 f115 f116 f117 f118 f119 f120 f121 f122 f123 f124 f125 f126 f127 f128 f129 f130 f131 f132 f133 f134 f135 f136 f137 f138 f139 f140 f141 f142 f143 f144 f145 f146 f147 f148 f149 f150 f151 f152 f153 f154 f155 f156 f157 f158 f159 f160 f161 f162 f163 f164 f165 f166 f167 f168 f169 f170 f171 f172 f173 f174 f175 f176 f177 f178 f179 f180 f181 f182 f183 f184 f185 f186 f187 f188 f189 f190 f191 f192 f193 f194 f195 f196 f197 f198 f199 f200 f201 f202 f203 f204 f205 f206 f207 f208 f209 f210 f211 f212 f213 f214 f215 f216 f217 f218 f219 f220 f221 f222 f223 f224 f225 f226 f227 f228 f229 f230 f231 f232 f233 f234 f235 f236 f237 f238 f239 f240 f241 f242 f243 f244 f245 f246 f247 f248 f249 f250 f251 f252 f253 f254 f255 f256 f257 f258 f259 f260 f261 f262 f263 f264 f265 f266 f267 f268 f269 f270 f271 f272 f273 f274 f275 f276 f277 f278 f279 f280 f281 f282 f283 f284 f285 f286 f287 f288 f289 f290 f291 f292 f293 f294 f295 f296 f297 f298 f299 f300 f301 f302 f303 f304 f305 f306 f307 f308 : Value) (wB : World) (KC : S22 w0 x A7 A8 A9 g p7 p8 p9 t tB (.slice a1 n1 d1) (.slice a2 n2 d2) (.slice a3 n3 d3) (.slice a4 n4 d4) z1 n1 c1 z2 n2 c2 z3 n3 c3 z4 n4 c4 (.slice b1 m1 h1) (.slice b2 m2 h2) (.slice b3 m3 h3) (.slice b4 m4 h4) wB) :
    Code.wp Try.prog (tail4 5) (bodyPost Try.prog Try.f4 fun e w' => e = .returned (.bool true) ∧ Below w0.heap.size w0 w') { tmps := #[f0, f1, .int .u8 (kk : Nat), .pointer (some ⟨g, 0, none⟩), f4, f5, f6, .pointer (some ⟨p7, 0, none⟩), .pointer (some ⟨p8, 0, none⟩), .pointer (some ⟨p9, 0, none⟩), f10, f11, f12, f13, f14, f15, f16, f17, f18, f19, f20, f21, f22, f23, f24, f25, f26, f27, f28, f29, f30, f31, f32, f33, f34, f35, f36, f37, f38, f39, f40, f41, f42, f43, f44, f45, f46, f47, f48, f49, f50, f51, f52, f53, f54, f55, f56, f57, f58, f59, f60, f61, f62, f63, f64, f65, f66, f67, f68, f69, f70, f71, f72, f73, f74, f75, f76, f77, f78, f79, f80, f81, f82, f83, f84, f85, f86, f87, f88, f89, f90, f91, f92, f93, f94, f95, f96, f97, f98, f99, f100, f101, f102, f103, f104, f105, f106, f107, f108, f109, f110, f111, f112, f113, f114, f115, f116, f117, f118, f119, f120, f121, f122, f123, f124, f125, f126, f127, f128, f129, f130, f131, f132, f133, f134, f135, f136, f137, f138, f139, f140, f141, f142, f143, f144, f145, f146, f147, f148, f149, f150, f151, f152, f153, f154, f155, f156, f157, f158, f159, f160, f161, f162, f163, f164, f165, f166, f167, f168, f169, f170, f171, f172, f173, f174, f175, f176, f177, f178, f179, f180, f181, f182, f183, f184, f185, f186, f187, f188, f189, f190, f191, f192, f193, f194, f195, f196, f197, f198, f199, f200, f201, f202, f203, f204, f205, f206, f207, f208, f209, f210, f211, f212, f213, f214, f215, f216, f217, f218, f219, f220, f221, f222, f223, f224, f225, f226, f227, f228, f229, f230, f231, f232, f233, f234, f235, f236, f237, f238, f239, f240, f241, f242, f243, f244, f245, f246, f247, f248, f249, f250, f251, f252, f253, f254, f255, f256, f257, f258, f259, f260, f261, f262, f263, f264, f265, f266, f267, f268, f269, f270, f271, f272, f273, f274, f275, f276, f277, f278, f279, f280, f281, f282, f283, f284, f285, f286, f287, f288, f289, f290, f291, f292, f293, f294, f295, f296, f297, f298, f299, f300, f301, f302, f303, f304, f305, f306, f307, f308], defers := [] } wB := by
  have S0 := Lib.hid KC
  clear KC
  have LA := Lib.hid (show n1 = t.po.length ∧ n2 = t.vl.length ∧ n3 = t.st.length ∧ n4 = t.fd.length from ⟨HH.out.l1, HH.out.l2, HH.out.l3, HH.out.l4⟩)
  have LB := Lib.hid (show m1 = tB.po.length ∧ m2 = tB.vl.length ∧ m3 = tB.st.length ∧ m4 = tB.fd.length from ⟨own_len S0.out.o8.o1, own_len S0.out.o8.o2, own_len S0.out.o8.o3, own_len S0.out.o8.o4⟩)
  have KP7 := Lib.hid (show Blk wB p7 (stA t (.slice a1 n1 d1) (.slice a2 n2 d2) (.slice a3 n3 d3) (.slice a4 n4 d4)) 41 by rw [← HH.out.q7]; exact S0.out.s.k7)
  have KP8 := Lib.hid (show Blk wB p8 (stA tB (.slice b1 m1 h1) (.slice b2 m2 h2) (.slice b3 m3 h3) (.slice b4 m4 h4)) 41 by rw [← q8]; exact S0.out.k8)
  have c7 := Lib.hid (show wB.cell? ⟨p7, 6, none⟩ = some (.slice a1 n1 d1) ∧ wB.cell? ⟨p7, 7, none⟩ = some (.slice a2 n2 d2) ∧ wB.cell? ⟨p7, 8, none⟩ = some (.slice a3 n3 d3) ∧ wB.cell? ⟨p7, 9, none⟩ = some (.slice a4 n4 d4) from ⟨(st_cells KP7.out).1, (st_cells KP7.out).2.1, (st_cells KP7.out).2.2.1, (st_cells KP7.out).2.2.2.1⟩)
  have c8 := Lib.hid (show wB.cell? ⟨p8, 6, none⟩ = some (.slice b1 m1 h1) ∧ wB.cell? ⟨p8, 7, none⟩ = some (.slice b2 m2 h2) ∧ wB.cell? ⟨p8, 8, none⟩ = some (.slice b3 m3 h3) ∧ wB.cell? ⟨p8, 9, none⟩ = some (.slice b4 m4 h4) from ⟨(st_cells KP8.out).1, (st_cells KP8.out).2.1, (st_cells KP8.out).2.2.1, (st_cells KP8.out).2.2.2.1⟩)
  have s7 := Lib.hid (show wB.cell? ⟨p7, 24, none⟩ = some (.int .i64 t.beat) from (st_cells KP7.out).2.2.2.2)
  have s8 := Lib.hid (show wB.cell? ⟨p8, 24, none⟩ = some (.int .i64 tB.beat) from (st_cells KP8.out).2.2.2.2)
  conv => arg 2; whnf
  conv => arg 4; zeta
  go_upto_region 5 with fail
  rename_i K5 hK5
  have HK5 := Lib.hid hK5
  clear hK5
  obtain ⟨cq0, hc0⟩ : ∃ c, c = eqB t.cf tB.cf := ⟨_, rfl⟩
  obtain ⟨cq2, hc2⟩ : ∃ c, c = eqB (cA t.c) (cA tB.c) := ⟨_, rfl⟩
  have C0 := Lib.hid hc0
  have C2 := Lib.hid hc2
  have EF := Lib.hid (show ∀ W, (Op.equalIn 10000 34 (.agg (cfA t.cf)) (.agg (cfA tB.cf))).run Try.prog W = .ok cq0 W from fun W => by rw [hc0]; exact equal_cf t.cf tB.cf W)
  have EC := Lib.hid (show ∀ W, (Op.equalIn 10000 39 (.agg (cA t.c)) (.agg (cA tB.c))).run Try.prog W = .ok cq2 W from fun W => by rw [hc2]; exact equal_cc t.c tB.c W)
  clear hc0 hc2
  refine wp_region_lit ?_
  cases hc0 : cq0 with
  | false =>
    have hq0 : eqB t.cf tB.cf = false := C0.out.symm.trans hc0
    rw [hc0] at EF
    refine wpList_val (.pointer (some ⟨p7, 0, none⟩)) (by rfl) (by go_simp) ?_
    (try simp only [Act.put, List.getElem_toArray, List.getElem_cons_succ, List.getElem_cons_zero, List.setIfInBounds_toArray, List.set_cons_zero, List.set_cons_succ])
    refine wpList_val (.agg (cfA t.cf)) (by rfl) (run_loadPart_of 34 _ rfl p7 0 rfl 41 _ (cfC t.cf) _ KP7.out (st_cf t _ _ _ _) Try.underlying34 rfl (cf_info t.cf)) ?_
    (try simp only [Act.put, List.getElem_toArray, List.getElem_cons_succ, List.getElem_cons_zero, List.setIfInBounds_toArray, List.set_cons_zero, List.set_cons_succ])
    refine wpList_val (.pointer (some ⟨p8, 0, none⟩)) (by rfl) (by go_simp) ?_
    (try simp only [Act.put, List.getElem_toArray, List.getElem_cons_succ, List.getElem_cons_zero, List.setIfInBounds_toArray, List.set_cons_zero, List.set_cons_succ])
    refine wpList_val (.agg (cfA tB.cf)) (by rfl) (run_loadPart_of 34 _ rfl p8 0 rfl 41 _ (cfC tB.cf) _ KP8.out (st_cf tB _ _ _ _) Try.underlying34 rfl (cf_info tB.cf)) ?_
    (try simp only [Act.put, List.getElem_toArray, List.getElem_cons_succ, List.getElem_cons_zero, List.setIfInBounds_toArray, List.set_cons_zero, List.set_cons_succ])
    refine wpList_val (.bool false) (by rfl) (by have q := EF.out; go_simp) ?_
    (try simp only [Act.put, List.getElem_toArray, List.getElem_cons_succ, List.getElem_cons_zero, List.setIfInBounds_toArray, List.set_cons_zero, List.set_cons_succ])
    refine wpList_val (.bool false) (by rfl) (by go_simp) ?_
    (try simp only [Act.put, List.getElem_toArray, List.getElem_cons_succ, List.getElem_cons_zero, List.setIfInBounds_toArray, List.set_cons_zero, List.set_cons_succ])
    refine wpList_skip (by kernel_rfl) ?_
    (try simp only [Act.put, List.getElem_toArray, List.getElem_cons_succ, List.getElem_cons_zero, List.setIfInBounds_toArray, List.set_cons_zero, List.set_cons_succ])
    refine wpList_skip (by kernel_rfl) ?_
    (try simp only [Act.put, List.getElem_toArray, List.getElem_cons_succ, List.getElem_cons_zero, List.setIfInBounds_toArray, List.set_cons_zero, List.set_cons_succ])
    refine wpList_skip (by kernel_rfl) ?_
    (try simp only [Act.put, List.getElem_toArray, List.getElem_cons_succ, List.getElem_cons_zero, List.setIfInBounds_toArray, List.set_cons_zero, List.set_cons_succ])
    refine wpList_skip (by kernel_rfl) ?_
    (try simp only [Act.put, List.getElem_toArray, List.getElem_cons_succ, List.getElem_cons_zero, List.setIfInBounds_toArray, List.set_cons_zero, List.set_cons_succ])
    refine wpList_skip (by kernel_rfl) ?_
    (try simp only [Act.put, List.getElem_toArray, List.getElem_cons_succ, List.getElem_cons_zero, List.setIfInBounds_toArray, List.set_cons_zero, List.set_cons_succ])
    refine wpList_val (.bool false) (by rfl) (run_pick_no (.tmp 37) (.tmp 42) (.const (.bool false)) _ rfl rfl rfl) ?_
    (try simp only [Act.put, List.getElem_toArray, List.getElem_cons_succ, List.getElem_cons_zero, List.setIfInBounds_toArray, List.set_cons_zero, List.set_cons_succ])
    refine wpList_val (.bool false) (by rfl) (run_move (.tmp 43) _ rfl rfl) ?_
    (try simp only [Act.put, List.getElem_toArray, List.getElem_cons_succ, List.getElem_cons_zero, List.setIfInBounds_toArray, List.set_cons_zero, List.set_cons_succ])
    refine wpList_skip (by kernel_rfl) ?_
    (try simp only [Act.put, List.getElem_toArray, List.getElem_cons_succ, List.getElem_cons_zero, List.setIfInBounds_toArray, List.set_cons_zero, List.set_cons_succ])
    refine wpList_skip (by kernel_rfl) ?_
    (try simp only [Act.put, List.getElem_toArray, List.getElem_cons_succ, List.getElem_cons_zero, List.setIfInBounds_toArray, List.set_cons_zero, List.set_cons_succ])
    refine wpList_skip (by kernel_rfl) ?_
    (try simp only [Act.put, List.getElem_toArray, List.getElem_cons_succ, List.getElem_cons_zero, List.setIfInBounds_toArray, List.set_cons_zero, List.set_cons_succ])
    refine wpList_skip (by kernel_rfl) ?_
    (try simp only [Act.put, List.getElem_toArray, List.getElem_cons_succ, List.getElem_cons_zero, List.setIfInBounds_toArray, List.set_cons_zero, List.set_cons_succ])
    refine wpList_skip (by kernel_rfl) ?_
    (try simp only [Act.put, List.getElem_toArray, List.getElem_cons_succ, List.getElem_cons_zero, List.setIfInBounds_toArray, List.set_cons_zero, List.set_cons_succ])
    refine wpList_val (.bool false) (by rfl) (run_pick_no (.tmp 44) (.tmp 49) (.const (.bool false)) _ rfl rfl rfl) ?_
    (try simp only [Act.put, List.getElem_toArray, List.getElem_cons_succ, List.getElem_cons_zero, List.setIfInBounds_toArray, List.set_cons_zero, List.set_cons_succ])
    refine wpList_val (.bool false) (by rfl) (run_move (.tmp 50) _ rfl rfl) ?_
    (try simp only [Act.put, List.getElem_toArray, List.getElem_cons_succ, List.getElem_cons_zero, List.setIfInBounds_toArray, List.set_cons_zero, List.set_cons_succ])
    refine wpList_skip (by kernel_rfl) ?_
    (try simp only [Act.put, List.getElem_toArray, List.getElem_cons_succ, List.getElem_cons_zero, List.setIfInBounds_toArray, List.set_cons_zero, List.set_cons_succ])
    refine wpList_skip (by kernel_rfl) ?_
    (try simp only [Act.put, List.getElem_toArray, List.getElem_cons_succ, List.getElem_cons_zero, List.setIfInBounds_toArray, List.set_cons_zero, List.set_cons_succ])
    refine wpList_skip (by kernel_rfl) ?_
    (try simp only [Act.put, List.getElem_toArray, List.getElem_cons_succ, List.getElem_cons_zero, List.setIfInBounds_toArray, List.set_cons_zero, List.set_cons_succ])
    refine wpList_skip (by kernel_rfl) ?_
    (try simp only [Act.put, List.getElem_toArray, List.getElem_cons_succ, List.getElem_cons_zero, List.setIfInBounds_toArray, List.set_cons_zero, List.set_cons_succ])
    refine wpList_skip (by kernel_rfl) ?_
    (try simp only [Act.put, List.getElem_toArray, List.getElem_cons_succ, List.getElem_cons_zero, List.setIfInBounds_toArray, List.set_cons_zero, List.set_cons_succ])
    refine wpList_skip (by kernel_rfl) ?_
    (try simp only [Act.put, List.getElem_toArray, List.getElem_cons_succ, List.getElem_cons_zero, List.setIfInBounds_toArray, List.set_cons_zero, List.set_cons_succ])
    refine wpList_skip (by kernel_rfl) ?_
    (try simp only [Act.put, List.getElem_toArray, List.getElem_cons_succ, List.getElem_cons_zero, List.setIfInBounds_toArray, List.set_cons_zero, List.set_cons_succ])
    refine wpList_val (.bool false) (by rfl) (run_pick_no (.tmp 51) (.tmp 58) (.const (.bool false)) _ rfl rfl rfl) ?_
    (try simp only [Act.put, List.getElem_toArray, List.getElem_cons_succ, List.getElem_cons_zero, List.setIfInBounds_toArray, List.set_cons_zero, List.set_cons_succ])
    refine wpList_val (.bool false) (by rfl) (run_move (.tmp 59) _ rfl rfl) ?_
    (try simp only [Act.put, List.getElem_toArray, List.getElem_cons_succ, List.getElem_cons_zero, List.setIfInBounds_toArray, List.set_cons_zero, List.set_cons_succ])
    refine wpList_skip (by kernel_rfl) ?_
    (try simp only [Act.put, List.getElem_toArray, List.getElem_cons_succ, List.getElem_cons_zero, List.setIfInBounds_toArray, List.set_cons_zero, List.set_cons_succ])
    refine wpList_skip (by kernel_rfl) ?_
    (try simp only [Act.put, List.getElem_toArray, List.getElem_cons_succ, List.getElem_cons_zero, List.setIfInBounds_toArray, List.set_cons_zero, List.set_cons_succ])
    refine wpList_skip (by kernel_rfl) ?_
    (try simp only [Act.put, List.getElem_toArray, List.getElem_cons_succ, List.getElem_cons_zero, List.setIfInBounds_toArray, List.set_cons_zero, List.set_cons_succ])
    refine wpList_skip (by kernel_rfl) ?_
    (try simp only [Act.put, List.getElem_toArray, List.getElem_cons_succ, List.getElem_cons_zero, List.setIfInBounds_toArray, List.set_cons_zero, List.set_cons_succ])
    refine wpList_skip (by kernel_rfl) ?_
    (try simp only [Act.put, List.getElem_toArray, List.getElem_cons_succ, List.getElem_cons_zero, List.setIfInBounds_toArray, List.set_cons_zero, List.set_cons_succ])
    refine wpList_skip (by kernel_rfl) ?_
    (try simp only [Act.put, List.getElem_toArray, List.getElem_cons_succ, List.getElem_cons_zero, List.setIfInBounds_toArray, List.set_cons_zero, List.set_cons_succ])
    refine wpList_skip (by kernel_rfl) ?_
    (try simp only [Act.put, List.getElem_toArray, List.getElem_cons_succ, List.getElem_cons_zero, List.setIfInBounds_toArray, List.set_cons_zero, List.set_cons_succ])
    refine wpList_val (.bool false) (by rfl) (run_pick_no (.tmp 60) (.tmp 67) (.const (.bool false)) _ rfl rfl rfl) ?_
    (try simp only [Act.put, List.getElem_toArray, List.getElem_cons_succ, List.getElem_cons_zero, List.setIfInBounds_toArray, List.set_cons_zero, List.set_cons_succ])
    refine wpList_val (.bool false) (by rfl) (run_move (.tmp 68) _ rfl rfl) ?_
    (try simp only [Act.put, List.getElem_toArray, List.getElem_cons_succ, List.getElem_cons_zero, List.setIfInBounds_toArray, List.set_cons_zero, List.set_cons_succ])
    refine wpList_skip (by kernel_rfl) ?_
    (try simp only [Act.put, List.getElem_toArray, List.getElem_cons_succ, List.getElem_cons_zero, List.setIfInBounds_toArray, List.set_cons_zero, List.set_cons_succ])
    refine wpList_skip (by kernel_rfl) ?_
    (try simp only [Act.put, List.getElem_toArray, List.getElem_cons_succ, List.getElem_cons_zero, List.setIfInBounds_toArray, List.set_cons_zero, List.set_cons_succ])
    refine wpList_skip (by kernel_rfl) ?_
    (try simp only [Act.put, List.getElem_toArray, List.getElem_cons_succ, List.getElem_cons_zero, List.setIfInBounds_toArray, List.set_cons_zero, List.set_cons_succ])
    refine wpList_skip (by kernel_rfl) ?_
    (try simp only [Act.put, List.getElem_toArray, List.getElem_cons_succ, List.getElem_cons_zero, List.setIfInBounds_toArray, List.set_cons_zero, List.set_cons_succ])
    refine wpList_skip (by kernel_rfl) ?_
    (try simp only [Act.put, List.getElem_toArray, List.getElem_cons_succ, List.getElem_cons_zero, List.setIfInBounds_toArray, List.set_cons_zero, List.set_cons_succ])
    refine wpList_skip (by kernel_rfl) ?_
    (try simp only [Act.put, List.getElem_toArray, List.getElem_cons_succ, List.getElem_cons_zero, List.setIfInBounds_toArray, List.set_cons_zero, List.set_cons_succ])
    refine wpList_skip (by kernel_rfl) ?_
    (try simp only [Act.put, List.getElem_toArray, List.getElem_cons_succ, List.getElem_cons_zero, List.setIfInBounds_toArray, List.set_cons_zero, List.set_cons_succ])
    refine wpList_val (.bool false) (by rfl) (run_pick_no (.tmp 69) (.tmp 76) (.const (.bool false)) _ rfl rfl rfl) ?_
    (try simp only [Act.put, List.getElem_toArray, List.getElem_cons_succ, List.getElem_cons_zero, List.setIfInBounds_toArray, List.set_cons_zero, List.set_cons_succ])
    refine wpList_val (.bool false) (by rfl) (run_move (.tmp 77) _ rfl rfl) ?_
    (try simp only [Act.put, List.getElem_toArray, List.getElem_cons_succ, List.getElem_cons_zero, List.setIfInBounds_toArray, List.set_cons_zero, List.set_cons_succ])
    refine wpList_skip (by kernel_rfl) ?_
    (try simp only [Act.put, List.getElem_toArray, List.getElem_cons_succ, List.getElem_cons_zero, List.setIfInBounds_toArray, List.set_cons_zero, List.set_cons_succ])
    refine wpList_skip (by kernel_rfl) ?_
    (try simp only [Act.put, List.getElem_toArray, List.getElem_cons_succ, List.getElem_cons_zero, List.setIfInBounds_toArray, List.set_cons_zero, List.set_cons_succ])
    refine wpList_skip (by kernel_rfl) ?_
    (try simp only [Act.put, List.getElem_toArray, List.getElem_cons_succ, List.getElem_cons_zero, List.setIfInBounds_toArray, List.set_cons_zero, List.set_cons_succ])
    refine wpList_skip (by kernel_rfl) ?_
    (try simp only [Act.put, List.getElem_toArray, List.getElem_cons_succ, List.getElem_cons_zero, List.setIfInBounds_toArray, List.set_cons_zero, List.set_cons_succ])
    refine wpList_skip (by kernel_rfl) ?_
    (try simp only [Act.put, List.getElem_toArray, List.getElem_cons_succ, List.getElem_cons_zero, List.setIfInBounds_toArray, List.set_cons_zero, List.set_cons_succ])
    refine wpList_skip (by kernel_rfl) ?_
    (try simp only [Act.put, List.getElem_toArray, List.getElem_cons_succ, List.getElem_cons_zero, List.setIfInBounds_toArray, List.set_cons_zero, List.set_cons_succ])
    refine wpList_skip (by kernel_rfl) ?_
    (try simp only [Act.put, List.getElem_toArray, List.getElem_cons_succ, List.getElem_cons_zero, List.setIfInBounds_toArray, List.set_cons_zero, List.set_cons_succ])
    refine wpList_val (.bool false) (by rfl) (run_pick_no (.tmp 78) (.tmp 85) (.const (.bool false)) _ rfl rfl rfl) ?_
    (try simp only [Act.put, List.getElem_toArray, List.getElem_cons_succ, List.getElem_cons_zero, List.setIfInBounds_toArray, List.set_cons_zero, List.set_cons_succ])
    refine wpList_val (.bool false) (by rfl) (by go_simp) ?_
    (try simp only [Act.put, List.getElem_toArray, List.getElem_cons_succ, List.getElem_cons_zero, List.setIfInBounds_toArray, List.set_cons_zero, List.set_cons_succ])
    refine wpList_nil ?_
    exact HK5.out _ _ (sl1 w0 x A7 A8 A9 g p7 p8 p9 kk t tB z1 n1 c1 z2 n2 c2 z3 n3 c3 z4 n4 c4 a1 d1 b1 m1 h1 a2 d2 b2 m2 h2 a3 d3 b3 m3 h3 a4 d4 b4 m4 h4 HH q8 false (fun h => Bool.noConfusion h) (by have hx := hq0; unfold sameB; simp [hx]) _ _ _ _ _ _ _ _ _ _ _ _ _ _ _ _ _ _ _ _ _ _ _ _ _ _ _ _ _ _ _ _ _ _ _ _ _ _ _ _ _ _ _ _ _ _ _ _ _ _ _ _ _ _ _ _ _ _ _ _ _ _ _ _ _ _ _ _ _ _ _ _ _ _ _ _ _ _ _ _ _ _ _ _ _ _ _ _ _ _ _ _ _ _ _ _ _ _ _ _ _ _ _ _ _ _ _ _ _ _ _ _ _ _ _ _ _ _ _ _ _ _ _ _ _ _ _ _ _ _ _ _ _ _ _ _ _ _ _ _ _ _ _ _ _ _ _ _ _ _ _ _ _ _ _ _ _ _ _ _ _ _ _ _ _ _ _ _ _ _ _ _ _ _ _ _ _ _ _ _ _ _ _ _ _ _ _ _ _ _ _ _ _ _ _ _ _ _ _ _ _ _ _ _ _ _ _ _ _ _ _ _ _ _ _ _ _ _ _ _ _ _ _ _ _ _ _ _ _ _ _ _ _ _ _ _ _ _ _ _ _ _ _ _ _ _ _ _ _ _ _ _ _ _ _ _ _ _ _ _ _ _ _ _ _ _ _ _ _ _ _ _ _ _ _ _ _ _ _ _ _ _ _ _ _ _ _ _ _ _ _ _ _ _ _ _ _ _ _ _ _ _ _ wB S0.out)
  | true =>
    have hq0 : eqB t.cf tB.cf = true := C0.out.symm.trans hc0
    rw [hc0] at EF
    by_cases HB : t.beat = tB.beat
    case neg =>
      refine wpList_val (.pointer (some ⟨p7, 0, none⟩)) (by rfl) (by go_simp) ?_
      (try simp only [Act.put, List.getElem_toArray, List.getElem_cons_succ, List.getElem_cons_zero, List.setIfInBounds_toArray, List.set_cons_zero, List.set_cons_succ])
      refine wpList_val (.agg (cfA t.cf)) (by rfl) (run_loadPart_of 34 _ rfl p7 0 rfl 41 _ (cfC t.cf) _ KP7.out (st_cf t _ _ _ _) Try.underlying34 rfl (cf_info t.cf)) ?_
      (try simp only [Act.put, List.getElem_toArray, List.getElem_cons_succ, List.getElem_cons_zero, List.setIfInBounds_toArray, List.set_cons_zero, List.set_cons_succ])
      refine wpList_val (.pointer (some ⟨p8, 0, none⟩)) (by rfl) (by go_simp) ?_
      (try simp only [Act.put, List.getElem_toArray, List.getElem_cons_succ, List.getElem_cons_zero, List.setIfInBounds_toArray, List.set_cons_zero, List.set_cons_succ])
      refine wpList_val (.agg (cfA tB.cf)) (by rfl) (run_loadPart_of 34 _ rfl p8 0 rfl 41 _ (cfC tB.cf) _ KP8.out (st_cf tB _ _ _ _) Try.underlying34 rfl (cf_info tB.cf)) ?_
      (try simp only [Act.put, List.getElem_toArray, List.getElem_cons_succ, List.getElem_cons_zero, List.setIfInBounds_toArray, List.set_cons_zero, List.set_cons_succ])
      refine wpList_val (.bool true) (by rfl) (by have q := EF.out; go_simp) ?_
      (try simp only [Act.put, List.getElem_toArray, List.getElem_cons_succ, List.getElem_cons_zero, List.setIfInBounds_toArray, List.set_cons_zero, List.set_cons_succ])
      refine wpList_val (.bool true) (by rfl) (by go_simp) ?_
      (try simp only [Act.put, List.getElem_toArray, List.getElem_cons_succ, List.getElem_cons_zero, List.setIfInBounds_toArray, List.set_cons_zero, List.set_cons_succ])
      refine wpList_val (.pointer (some ⟨p7, 24, none⟩)) (by rfl) (by go_simp) ?_
      (try simp only [Act.put, List.getElem_toArray, List.getElem_cons_succ, List.getElem_cons_zero, List.setIfInBounds_toArray, List.set_cons_zero, List.set_cons_succ])
      refine wpList_val (.int .i64 t.beat) (by rfl) (by have q := s7.out; go_simp) ?_
      (try simp only [Act.put, List.getElem_toArray, List.getElem_cons_succ, List.getElem_cons_zero, List.setIfInBounds_toArray, List.set_cons_zero, List.set_cons_succ])
      refine wpList_val (.pointer (some ⟨p8, 24, none⟩)) (by rfl) (by go_simp) ?_
      (try simp only [Act.put, List.getElem_toArray, List.getElem_cons_succ, List.getElem_cons_zero, List.setIfInBounds_toArray, List.set_cons_zero, List.set_cons_succ])
      refine wpList_val (.int .i64 tB.beat) (by rfl) (by have q := s8.out; go_simp) ?_
      (try simp only [Act.put, List.getElem_toArray, List.getElem_cons_succ, List.getElem_cons_zero, List.setIfInBounds_toArray, List.set_cons_zero, List.set_cons_succ])
      refine wpList_val (.bool false) (by rfl) (by have q := HB; go_simp) ?_
      (try simp only [Act.put, List.getElem_toArray, List.getElem_cons_succ, List.getElem_cons_zero, List.setIfInBounds_toArray, List.set_cons_zero, List.set_cons_succ])
      refine wpList_val (.bool false) (by rfl) (run_pick_yes (.tmp 37) (.tmp 42) (.const (.bool false)) _ rfl rfl rfl) ?_
      (try simp only [Act.put, List.getElem_toArray, List.getElem_cons_succ, List.getElem_cons_zero, List.setIfInBounds_toArray, List.set_cons_zero, List.set_cons_succ])
      refine wpList_val (.bool false) (by rfl) (run_move (.tmp 43) _ rfl rfl) ?_
      (try simp only [Act.put, List.getElem_toArray, List.getElem_cons_succ, List.getElem_cons_zero, List.setIfInBounds_toArray, List.set_cons_zero, List.set_cons_succ])
      refine wpList_skip (by kernel_rfl) ?_
      (try simp only [Act.put, List.getElem_toArray, List.getElem_cons_succ, List.getElem_cons_zero, List.setIfInBounds_toArray, List.set_cons_zero, List.set_cons_succ])
      refine wpList_skip (by kernel_rfl) ?_
      (try simp only [Act.put, List.getElem_toArray, List.getElem_cons_succ, List.getElem_cons_zero, List.setIfInBounds_toArray, List.set_cons_zero, List.set_cons_succ])
      refine wpList_skip (by kernel_rfl) ?_
      (try simp only [Act.put, List.getElem_toArray, List.getElem_cons_succ, List.getElem_cons_zero, List.setIfInBounds_toArray, List.set_cons_zero, List.set_cons_succ])
      refine wpList_skip (by kernel_rfl) ?_
      (try simp only [Act.put, List.getElem_toArray, List.getElem_cons_succ, List.getElem_cons_zero, List.setIfInBounds_toArray, List.set_cons_zero, List.set_cons_succ])
      refine wpList_skip (by kernel_rfl) ?_
      (try simp only [Act.put, List.getElem_toArray, List.getElem_cons_succ, List.getElem_cons_zero, List.setIfInBounds_toArray, List.set_cons_zero, List.set_cons_succ])
      refine wpList_val (.bool false) (by rfl) (run_pick_no (.tmp 44) (.tmp 49) (.const (.bool false)) _ rfl rfl rfl) ?_
      (try simp only [Act.put, List.getElem_toArray, List.getElem_cons_succ, List.getElem_cons_zero, List.setIfInBounds_toArray, List.set_cons_zero, List.set_cons_succ])
      refine wpList_val (.bool false) (by rfl) (run_move (.tmp 50) _ rfl rfl) ?_
      (try simp only [Act.put, List.getElem_toArray, List.getElem_cons_succ, List.getElem_cons_zero, List.setIfInBounds_toArray, List.set_cons_zero, List.set_cons_succ])
      refine wpList_skip (by kernel_rfl) ?_
      (try simp only [Act.put, List.getElem_toArray, List.getElem_cons_succ, List.getElem_cons_zero, List.setIfInBounds_toArray, List.set_cons_zero, List.set_cons_succ])
      refine wpList_skip (by kernel_rfl) ?_
      (try simp only [Act.put, List.getElem_toArray, List.getElem_cons_succ, List.getElem_cons_zero, List.setIfInBounds_toArray, List.set_cons_zero, List.set_cons_succ])
      refine wpList_skip (by kernel_rfl) ?_
      (try simp only [Act.put, List.getElem_toArray, List.getElem_cons_succ, List.getElem_cons_zero, List.setIfInBounds_toArray, List.set_cons_zero, List.set_cons_succ])
      refine wpList_skip (by kernel_rfl) ?_
      (try simp only [Act.put, List.getElem_toArray, List.getElem_cons_succ, List.getElem_cons_zero, List.setIfInBounds_toArray, List.set_cons_zero, List.set_cons_succ])
      refine wpList_skip (by kernel_rfl) ?_
      (try simp only [Act.put, List.getElem_toArray, List.getElem_cons_succ, List.getElem_cons_zero, List.setIfInBounds_toArray, List.set_cons_zero, List.set_cons_succ])
      refine wpList_skip (by kernel_rfl) ?_
      (try simp only [Act.put, List.getElem_toArray, List.getElem_cons_succ, List.getElem_cons_zero, List.setIfInBounds_toArray, List.set_cons_zero, List.set_cons_succ])
      refine wpList_skip (by kernel_rfl) ?_
      (try simp only [Act.put, List.getElem_toArray, List.getElem_cons_succ, List.getElem_cons_zero, List.setIfInBounds_toArray, List.set_cons_zero, List.set_cons_succ])
      refine wpList_val (.bool false) (by rfl) (run_pick_no (.tmp 51) (.tmp 58) (.const (.bool false)) _ rfl rfl rfl) ?_
      (try simp only [Act.put, List.getElem_toArray, List.getElem_cons_succ, List.getElem_cons_zero, List.setIfInBounds_toArray, List.set_cons_zero, List.set_cons_succ])
      refine wpList_val (.bool false) (by rfl) (run_move (.tmp 59) _ rfl rfl) ?_
      (try simp only [Act.put, List.getElem_toArray, List.getElem_cons_succ, List.getElem_cons_zero, List.setIfInBounds_toArray, List.set_cons_zero, List.set_cons_succ])
      refine wpList_skip (by kernel_rfl) ?_
      (try simp only [Act.put, List.getElem_toArray, List.getElem_cons_succ, List.getElem_cons_zero, List.setIfInBounds_toArray, List.set_cons_zero, List.set_cons_succ])
      refine wpList_skip (by kernel_rfl) ?_
      (try simp only [Act.put, List.getElem_toArray, List.getElem_cons_succ, List.getElem_cons_zero, List.setIfInBounds_toArray, List.set_cons_zero, List.set_cons_succ])
      refine wpList_skip (by kernel_rfl) ?_
      (try simp only [Act.put, List.getElem_toArray, List.getElem_cons_succ, List.getElem_cons_zero, List.setIfInBounds_toArray, List.set_cons_zero, List.set_cons_succ])
      refine wpList_skip (by kernel_rfl) ?_
      (try simp only [Act.put, List.getElem_toArray, List.getElem_cons_succ, List.getElem_cons_zero, List.setIfInBounds_toArray, List.set_cons_zero, List.set_cons_succ])
      refine wpList_skip (by kernel_rfl) ?_
      (try simp only [Act.put, List.getElem_toArray, List.getElem_cons_succ, List.getElem_cons_zero, List.setIfInBounds_toArray, List.set_cons_zero, List.set_cons_succ])
      refine wpList_skip (by kernel_rfl) ?_
      (try simp only [Act.put, List.getElem_toArray, List.getElem_cons_succ, List.getElem_cons_zero, List.setIfInBounds_toArray, List.set_cons_zero, List.set_cons_succ])
      refine wpList_skip (by kernel_rfl) ?_
      (try simp only [Act.put, List.getElem_toArray, List.getElem_cons_succ, List.getElem_cons_zero, List.setIfInBounds_toArray, List.set_cons_zero, List.set_cons_succ])
      refine wpList_val (.bool false) (by rfl) (run_pick_no (.tmp 60) (.tmp 67) (.const (.bool false)) _ rfl rfl rfl) ?_
      (try simp only [Act.put, List.getElem_toArray, List.getElem_cons_succ, List.getElem_cons_zero, List.setIfInBounds_toArray, List.set_cons_zero, List.set_cons_succ])
      refine wpList_val (.bool false) (by rfl) (run_move (.tmp 68) _ rfl rfl) ?_
      (try simp only [Act.put, List.getElem_toArray, List.getElem_cons_succ, List.getElem_cons_zero, List.setIfInBounds_toArray, List.set_cons_zero, List.set_cons_succ])
      refine wpList_skip (by kernel_rfl) ?_
      (try simp only [Act.put, List.getElem_toArray, List.getElem_cons_succ, List.getElem_cons_zero, List.setIfInBounds_toArray, List.set_cons_zero, List.set_cons_succ])
      refine wpList_skip (by kernel_rfl) ?_
      (try simp only [Act.put, List.getElem_toArray, List.getElem_cons_succ, List.getElem_cons_zero, List.setIfInBounds_toArray, List.set_cons_zero, List.set_cons_succ])
      refine wpList_skip (by kernel_rfl) ?_
      (try simp only [Act.put, List.getElem_toArray, List.getElem_cons_succ, List.getElem_cons_zero, List.setIfInBounds_toArray, List.set_cons_zero, List.set_cons_succ])
      refine wpList_skip (by kernel_rfl) ?_
      (try simp only [Act.put, List.getElem_toArray, List.getElem_cons_succ, List.getElem_cons_zero, List.setIfInBounds_toArray, List.set_cons_zero, List.set_cons_succ])
      refine wpList_skip (by kernel_rfl) ?_
      (try simp only [Act.put, List.getElem_toArray, List.getElem_cons_succ, List.getElem_cons_zero, List.setIfInBounds_toArray, List.set_cons_zero, List.set_cons_succ])
      refine wpList_skip (by kernel_rfl) ?_
      (try simp only [Act.put, List.getElem_toArray, List.getElem_cons_succ, List.getElem_cons_zero, List.setIfInBounds_toArray, List.set_cons_zero, List.set_cons_succ])
      refine wpList_skip (by kernel_rfl) ?_
      (try simp only [Act.put, List.getElem_toArray, List.getElem_cons_succ, List.getElem_cons_zero, List.setIfInBounds_toArray, List.set_cons_zero, List.set_cons_succ])
      refine wpList_val (.bool false) (by rfl) (run_pick_no (.tmp 69) (.tmp 76) (.const (.bool false)) _ rfl rfl rfl) ?_
      (try simp only [Act.put, List.getElem_toArray, List.getElem_cons_succ, List.getElem_cons_zero, List.setIfInBounds_toArray, List.set_cons_zero, List.set_cons_succ])
      refine wpList_val (.bool false) (by rfl) (run_move (.tmp 77) _ rfl rfl) ?_
      (try simp only [Act.put, List.getElem_toArray, List.getElem_cons_succ, List.getElem_cons_zero, List.setIfInBounds_toArray, List.set_cons_zero, List.set_cons_succ])
      refine wpList_skip (by kernel_rfl) ?_
      (try simp only [Act.put, List.getElem_toArray, List.getElem_cons_succ, List.getElem_cons_zero, List.setIfInBounds_toArray, List.set_cons_zero, List.set_cons_succ])
      refine wpList_skip (by kernel_rfl) ?_
      (try simp only [Act.put, List.getElem_toArray, List.getElem_cons_succ, List.getElem_cons_zero, List.setIfInBounds_toArray, List.set_cons_zero, List.set_cons_succ])
      refine wpList_skip (by kernel_rfl) ?_
      (try simp only [Act.put, List.getElem_toArray, List.getElem_cons_succ, List.getElem_cons_zero, List.setIfInBounds_toArray, List.set_cons_zero, List.set_cons_succ])
      refine wpList_skip (by kernel_rfl) ?_
      (try simp only [Act.put, List.getElem_toArray, List.getElem_cons_succ, List.getElem_cons_zero, List.setIfInBounds_toArray, List.set_cons_zero, List.set_cons_succ])
      refine wpList_skip (by kernel_rfl) ?_
      (try simp only [Act.put, List.getElem_toArray, List.getElem_cons_succ, List.getElem_cons_zero, List.setIfInBounds_toArray, List.set_cons_zero, List.set_cons_succ])
      refine wpList_skip (by kernel_rfl) ?_
      (try simp only [Act.put, List.getElem_toArray, List.getElem_cons_succ, List.getElem_cons_zero, List.setIfInBounds_toArray, List.set_cons_zero, List.set_cons_succ])
      refine wpList_skip (by kernel_rfl) ?_
      (try simp only [Act.put, List.getElem_toArray, List.getElem_cons_succ, List.getElem_cons_zero, List.setIfInBounds_toArray, List.set_cons_zero, List.set_cons_succ])
      refine wpList_val (.bool false) (by rfl) (run_pick_no (.tmp 78) (.tmp 85) (.const (.bool false)) _ rfl rfl rfl) ?_
      (try simp only [Act.put, List.getElem_toArray, List.getElem_cons_succ, List.getElem_cons_zero, List.setIfInBounds_toArray, List.set_cons_zero, List.set_cons_succ])
      refine wpList_val (.bool false) (by rfl) (by go_simp) ?_
      (try simp only [Act.put, List.getElem_toArray, List.getElem_cons_succ, List.getElem_cons_zero, List.setIfInBounds_toArray, List.set_cons_zero, List.set_cons_succ])
      refine wpList_nil ?_
      exact HK5.out _ _ (sl1 w0 x A7 A8 A9 g p7 p8 p9 kk t tB z1 n1 c1 z2 n2 c2 z3 n3 c3 z4 n4 c4 a1 d1 b1 m1 h1 a2 d2 b2 m2 h2 a3 d3 b3 m3 h3 a4 d4 b4 m4 h4 HH q8 false (fun h => Bool.noConfusion h) (by have hx := (show eqB t.beat tB.beat = false from eqB_ne HB); unfold sameB; simp [hx]) _ _ _ _ _ _ _ _ _ _ _ _ _ _ _ _ _ _ _ _ _ _ _ _ _ _ _ _ _ _ _ _ _ _ _ _ _ _ _ _ _ _ _ _ _ _ _ _ _ _ _ _ _ _ _ _ _ _ _ _ _ _ _ _ _ _ _ _ _ _ _ _ _ _ _ _ _ _ _ _ _ _ _ _ _ _ _ _ _ _ _ _ _ _ _ _ _ _ _ _ _ _ _ _ _ _ _ _ _ _ _ _ _ _ _ _ _ _ _ _ _ _ _ _ _ _ _ _ _ _ _ _ _ _ _ _ _ _ _ _ _ _ _ _ _ _ _ _ _ _ _ _ _ _ _ _ _ _ _ _ _ _ _ _ _ _ _ _ _ _ _ _ _ _ _ _ _ _ _ _ _ _ _ _ _ _ _ _ _ _ _ _ _ _ _ _ _ _ _ _ _ _ _ _ _ _ _ _ _ _ _ _ _ _ _ _ _ _ _ _ _ _ _ _ _ _ _ _ _ _ _ _ _ _ _ _ _ _ _ _ _ _ _ _ _ _ _ _ _ _ _ _ _ _ _ _ _ _ _ _ _ _ _ _ _ _ _ _ _ _ _ _ _ _ _ _ _ _ _ _ _ _ _ _ _ _ _ _ _ _ _ _ _ _ _ _ _ _ _ _ _ _ _ wB S0.out)
    case pos =>
      cases hc2 : cq2 with
      | false =>
        have hq2 : eqB (cA t.c) (cA tB.c) = false := C2.out.symm.trans hc2
        rw [hc2] at EC
        refine wpList_val (.pointer (some ⟨p7, 0, none⟩)) (by rfl) (by go_simp) ?_
        (try simp only [Act.put, List.getElem_toArray, List.getElem_cons_succ, List.getElem_cons_zero, List.setIfInBounds_toArray, List.set_cons_zero, List.set_cons_succ])
        refine wpList_val (.agg (cfA t.cf)) (by rfl) (run_loadPart_of 34 _ rfl p7 0 rfl 41 _ (cfC t.cf) _ KP7.out (st_cf t _ _ _ _) Try.underlying34 rfl (cf_info t.cf)) ?_
        (try simp only [Act.put, List.getElem_toArray, List.getElem_cons_succ, List.getElem_cons_zero, List.setIfInBounds_toArray, List.set_cons_zero, List.set_cons_succ])
        refine wpList_val (.pointer (some ⟨p8, 0, none⟩)) (by rfl) (by go_simp) ?_
        (try simp only [Act.put, List.getElem_toArray, List.getElem_cons_succ, List.getElem_cons_zero, List.setIfInBounds_toArray, List.set_cons_zero, List.set_cons_succ])
        refine wpList_val (.agg (cfA tB.cf)) (by rfl) (run_loadPart_of 34 _ rfl p8 0 rfl 41 _ (cfC tB.cf) _ KP8.out (st_cf tB _ _ _ _) Try.underlying34 rfl (cf_info tB.cf)) ?_
        (try simp only [Act.put, List.getElem_toArray, List.getElem_cons_succ, List.getElem_cons_zero, List.setIfInBounds_toArray, List.set_cons_zero, List.set_cons_succ])
        refine wpList_val (.bool true) (by rfl) (by have q := EF.out; go_simp) ?_
        (try simp only [Act.put, List.getElem_toArray, List.getElem_cons_succ, List.getElem_cons_zero, List.setIfInBounds_toArray, List.set_cons_zero, List.set_cons_succ])
        refine wpList_val (.bool true) (by rfl) (by go_simp) ?_
        (try simp only [Act.put, List.getElem_toArray, List.getElem_cons_succ, List.getElem_cons_zero, List.setIfInBounds_toArray, List.set_cons_zero, List.set_cons_succ])
        refine wpList_val (.pointer (some ⟨p7, 24, none⟩)) (by rfl) (by go_simp) ?_
        (try simp only [Act.put, List.getElem_toArray, List.getElem_cons_succ, List.getElem_cons_zero, List.setIfInBounds_toArray, List.set_cons_zero, List.set_cons_succ])
        refine wpList_val (.int .i64 t.beat) (by rfl) (by have q := s7.out; go_simp) ?_
        (try simp only [Act.put, List.getElem_toArray, List.getElem_cons_succ, List.getElem_cons_zero, List.setIfInBounds_toArray, List.set_cons_zero, List.set_cons_succ])
        refine wpList_val (.pointer (some ⟨p8, 24, none⟩)) (by rfl) (by go_simp) ?_
        (try simp only [Act.put, List.getElem_toArray, List.getElem_cons_succ, List.getElem_cons_zero, List.setIfInBounds_toArray, List.set_cons_zero, List.set_cons_succ])
        refine wpList_val (.int .i64 tB.beat) (by rfl) (by have q := s8.out; go_simp) ?_
        (try simp only [Act.put, List.getElem_toArray, List.getElem_cons_succ, List.getElem_cons_zero, List.setIfInBounds_toArray, List.set_cons_zero, List.set_cons_succ])
        refine wpList_val (.bool true) (by rfl) (by have q := HB; go_simp) ?_
        (try simp only [Act.put, List.getElem_toArray, List.getElem_cons_succ, List.getElem_cons_zero, List.setIfInBounds_toArray, List.set_cons_zero, List.set_cons_succ])
        refine wpList_val (.bool true) (by rfl) (run_pick_yes (.tmp 37) (.tmp 42) (.const (.bool false)) _ rfl rfl rfl) ?_
        (try simp only [Act.put, List.getElem_toArray, List.getElem_cons_succ, List.getElem_cons_zero, List.setIfInBounds_toArray, List.set_cons_zero, List.set_cons_succ])
        refine wpList_val (.bool true) (by rfl) (run_move (.tmp 43) _ rfl rfl) ?_
        (try simp only [Act.put, List.getElem_toArray, List.getElem_cons_succ, List.getElem_cons_zero, List.setIfInBounds_toArray, List.set_cons_zero, List.set_cons_succ])
        refine wpList_val (.pointer (some ⟨p7, 10, none⟩)) (by rfl) (by go_simp) ?_
        (try simp only [Act.put, List.getElem_toArray, List.getElem_cons_succ, List.getElem_cons_zero, List.setIfInBounds_toArray, List.set_cons_zero, List.set_cons_succ])
        refine wpList_val (.agg (cA t.c)) (by rfl) (run_loadPart_of 39 _ rfl p7 10 rfl 41 _ (cL t.c) _ KP7.out (st_cc t _ _ _ _) Try.underlying39 rfl (cA_info t.c)) ?_
        (try simp only [Act.put, List.getElem_toArray, List.getElem_cons_succ, List.getElem_cons_zero, List.setIfInBounds_toArray, List.set_cons_zero, List.set_cons_succ])
        refine wpList_val (.pointer (some ⟨p8, 10, none⟩)) (by rfl) (by go_simp) ?_
        (try simp only [Act.put, List.getElem_toArray, List.getElem_cons_succ, List.getElem_cons_zero, List.setIfInBounds_toArray, List.set_cons_zero, List.set_cons_succ])
        refine wpList_val (.agg (cA tB.c)) (by rfl) (run_loadPart_of 39 _ rfl p8 10 rfl 41 _ (cL tB.c) _ KP8.out (st_cc tB _ _ _ _) Try.underlying39 rfl (cA_info tB.c)) ?_
        (try simp only [Act.put, List.getElem_toArray, List.getElem_cons_succ, List.getElem_cons_zero, List.setIfInBounds_toArray, List.set_cons_zero, List.set_cons_succ])
        refine wpList_val (.bool false) (by rfl) (by have q := EC.out; go_simp) ?_
        (try simp only [Act.put, List.getElem_toArray, List.getElem_cons_succ, List.getElem_cons_zero, List.setIfInBounds_toArray, List.set_cons_zero, List.set_cons_succ])
        refine wpList_val (.bool false) (by rfl) (run_pick_yes (.tmp 44) (.tmp 49) (.const (.bool false)) _ rfl rfl rfl) ?_
        (try simp only [Act.put, List.getElem_toArray, List.getElem_cons_succ, List.getElem_cons_zero, List.setIfInBounds_toArray, List.set_cons_zero, List.set_cons_succ])
        refine wpList_val (.bool false) (by rfl) (run_move (.tmp 50) _ rfl rfl) ?_
        (try simp only [Act.put, List.getElem_toArray, List.getElem_cons_succ, List.getElem_cons_zero, List.setIfInBounds_toArray, List.set_cons_zero, List.set_cons_succ])
        refine wpList_skip (by kernel_rfl) ?_
        (try simp only [Act.put, List.getElem_toArray, List.getElem_cons_succ, List.getElem_cons_zero, List.setIfInBounds_toArray, List.set_cons_zero, List.set_cons_succ])
        refine wpList_skip (by kernel_rfl) ?_
        (try simp only [Act.put, List.getElem_toArray, List.getElem_cons_succ, List.getElem_cons_zero, List.setIfInBounds_toArray, List.set_cons_zero, List.set_cons_succ])
        refine wpList_skip (by kernel_rfl) ?_
        (try simp only [Act.put, List.getElem_toArray, List.getElem_cons_succ, List.getElem_cons_zero, List.setIfInBounds_toArray, List.set_cons_zero, List.set_cons_succ])
        refine wpList_skip (by kernel_rfl) ?_
        (try simp only [Act.put, List.getElem_toArray, List.getElem_cons_succ, List.getElem_cons_zero, List.setIfInBounds_toArray, List.set_cons_zero, List.set_cons_succ])
        refine wpList_skip (by kernel_rfl) ?_
        (try simp only [Act.put, List.getElem_toArray, List.getElem_cons_succ, List.getElem_cons_zero, List.setIfInBounds_toArray, List.set_cons_zero, List.set_cons_succ])
        refine wpList_skip (by kernel_rfl) ?_
        (try simp only [Act.put, List.getElem_toArray, List.getElem_cons_succ, List.getElem_cons_zero, List.setIfInBounds_toArray, List.set_cons_zero, List.set_cons_succ])
        refine wpList_skip (by kernel_rfl) ?_
        (try simp only [Act.put, List.getElem_toArray, List.getElem_cons_succ, List.getElem_cons_zero, List.setIfInBounds_toArray, List.set_cons_zero, List.set_cons_succ])
        refine wpList_val (.bool false) (by rfl) (run_pick_no (.tmp 51) (.tmp 58) (.const (.bool false)) _ rfl rfl rfl) ?_
        (try simp only [Act.put, List.getElem_toArray, List.getElem_cons_succ, List.getElem_cons_zero, List.setIfInBounds_toArray, List.set_cons_zero, List.set_cons_succ])
        refine wpList_val (.bool false) (by rfl) (run_move (.tmp 59) _ rfl rfl) ?_
        (try simp only [Act.put, List.getElem_toArray, List.getElem_cons_succ, List.getElem_cons_zero, List.setIfInBounds_toArray, List.set_cons_zero, List.set_cons_succ])
        refine wpList_skip (by kernel_rfl) ?_
        (try simp only [Act.put, List.getElem_toArray, List.getElem_cons_succ, List.getElem_cons_zero, List.setIfInBounds_toArray, List.set_cons_zero, List.set_cons_succ])
        refine wpList_skip (by kernel_rfl) ?_
        (try simp only [Act.put, List.getElem_toArray, List.getElem_cons_succ, List.getElem_cons_zero, List.setIfInBounds_toArray, List.set_cons_zero, List.set_cons_succ])
        refine wpList_skip (by kernel_rfl) ?_
        (try simp only [Act.put, List.getElem_toArray, List.getElem_cons_succ, List.getElem_cons_zero, List.setIfInBounds_toArray, List.set_cons_zero, List.set_cons_succ])
        refine wpList_skip (by kernel_rfl) ?_
        (try simp only [Act.put, List.getElem_toArray, List.getElem_cons_succ, List.getElem_cons_zero, List.setIfInBounds_toArray, List.set_cons_zero, List.set_cons_succ])
        refine wpList_skip (by kernel_rfl) ?_
        (try simp only [Act.put, List.getElem_toArray, List.getElem_cons_succ, List.getElem_cons_zero, List.setIfInBounds_toArray, List.set_cons_zero, List.set_cons_succ])
        refine wpList_skip (by kernel_rfl) ?_
        (try simp only [Act.put, List.getElem_toArray, List.getElem_cons_succ, List.getElem_cons_zero, List.setIfInBounds_toArray, List.set_cons_zero, List.set_cons_succ])
        refine wpList_skip (by kernel_rfl) ?_
        (try simp only [Act.put, List.getElem_toArray, List.getElem_cons_succ, List.getElem_cons_zero, List.setIfInBounds_toArray, List.set_cons_zero, List.set_cons_succ])
        refine wpList_val (.bool false) (by rfl) (run_pick_no (.tmp 60) (.tmp 67) (.const (.bool false)) _ rfl rfl rfl) ?_
        (try simp only [Act.put, List.getElem_toArray, List.getElem_cons_succ, List.getElem_cons_zero, List.setIfInBounds_toArray, List.set_cons_zero, List.set_cons_succ])
        refine wpList_val (.bool false) (by rfl) (run_move (.tmp 68) _ rfl rfl) ?_
        (try simp only [Act.put, List.getElem_toArray, List.getElem_cons_succ, List.getElem_cons_zero, List.setIfInBounds_toArray, List.set_cons_zero, List.set_cons_succ])
        refine wpList_skip (by kernel_rfl) ?_
        (try simp only [Act.put, List.getElem_toArray, List.getElem_cons_succ, List.getElem_cons_zero, List.setIfInBounds_toArray, List.set_cons_zero, List.set_cons_succ])
        refine wpList_skip (by kernel_rfl) ?_
        (try simp only [Act.put, List.getElem_toArray, List.getElem_cons_succ, List.getElem_cons_zero, List.setIfInBounds_toArray, List.set_cons_zero, List.set_cons_succ])
        refine wpList_skip (by kernel_rfl) ?_
        (try simp only [Act.put, List.getElem_toArray, List.getElem_cons_succ, List.getElem_cons_zero, List.setIfInBounds_toArray, List.set_cons_zero, List.set_cons_succ])
        refine wpList_skip (by kernel_rfl) ?_
        (try simp only [Act.put, List.getElem_toArray, List.getElem_cons_succ, List.getElem_cons_zero, List.setIfInBounds_toArray, List.set_cons_zero, List.set_cons_succ])
        refine wpList_skip (by kernel_rfl) ?_
        (try simp only [Act.put, List.getElem_toArray, List.getElem_cons_succ, List.getElem_cons_zero, List.setIfInBounds_toArray, List.set_cons_zero, List.set_cons_succ])
        refine wpList_skip (by kernel_rfl) ?_
        (try simp only [Act.put, List.getElem_toArray, List.getElem_cons_succ, List.getElem_cons_zero, List.setIfInBounds_toArray, List.set_cons_zero, List.set_cons_succ])
        refine wpList_skip (by kernel_rfl) ?_
        (try simp only [Act.put, List.getElem_toArray, List.getElem_cons_succ, List.getElem_cons_zero, List.setIfInBounds_toArray, List.set_cons_zero, List.set_cons_succ])
        refine wpList_val (.bool false) (by rfl) (run_pick_no (.tmp 69) (.tmp 76) (.const (.bool false)) _ rfl rfl rfl) ?_
        (try simp only [Act.put, List.getElem_toArray, List.getElem_cons_succ, List.getElem_cons_zero, List.setIfInBounds_toArray, List.set_cons_zero, List.set_cons_succ])
        refine wpList_val (.bool false) (by rfl) (run_move (.tmp 77) _ rfl rfl) ?_
        (try simp only [Act.put, List.getElem_toArray, List.getElem_cons_succ, List.getElem_cons_zero, List.setIfInBounds_toArray, List.set_cons_zero, List.set_cons_succ])
        refine wpList_skip (by kernel_rfl) ?_
        (try simp only [Act.put, List.getElem_toArray, List.getElem_cons_succ, List.getElem_cons_zero, List.setIfInBounds_toArray, List.set_cons_zero, List.set_cons_succ])
        refine wpList_skip (by kernel_rfl) ?_
        (try simp only [Act.put, List.getElem_toArray, List.getElem_cons_succ, List.getElem_cons_zero, List.setIfInBounds_toArray, List.set_cons_zero, List.set_cons_succ])
        refine wpList_skip (by kernel_rfl) ?_
        (try simp only [Act.put, List.getElem_toArray, List.getElem_cons_succ, List.getElem_cons_zero, List.setIfInBounds_toArray, List.set_cons_zero, List.set_cons_succ])
        refine wpList_skip (by kernel_rfl) ?_
        (try simp only [Act.put, List.getElem_toArray, List.getElem_cons_succ, List.getElem_cons_zero, List.setIfInBounds_toArray, List.set_cons_zero, List.set_cons_succ])
        refine wpList_skip (by kernel_rfl) ?_
        (try simp only [Act.put, List.getElem_toArray, List.getElem_cons_succ, List.getElem_cons_zero, List.setIfInBounds_toArray, List.set_cons_zero, List.set_cons_succ])
        refine wpList_skip (by kernel_rfl) ?_
        (try simp only [Act.put, List.getElem_toArray, List.getElem_cons_succ, List.getElem_cons_zero, List.setIfInBounds_toArray, List.set_cons_zero, List.set_cons_succ])
        refine wpList_skip (by kernel_rfl) ?_
        (try simp only [Act.put, List.getElem_toArray, List.getElem_cons_succ, List.getElem_cons_zero, List.setIfInBounds_toArray, List.set_cons_zero, List.set_cons_succ])
        refine wpList_val (.bool false) (by rfl) (run_pick_no (.tmp 78) (.tmp 85) (.const (.bool false)) _ rfl rfl rfl) ?_
        (try simp only [Act.put, List.getElem_toArray, List.getElem_cons_succ, List.getElem_cons_zero, List.setIfInBounds_toArray, List.set_cons_zero, List.set_cons_succ])
        refine wpList_val (.bool false) (by rfl) (by go_simp) ?_
        (try simp only [Act.put, List.getElem_toArray, List.getElem_cons_succ, List.getElem_cons_zero, List.setIfInBounds_toArray, List.set_cons_zero, List.set_cons_succ])
        refine wpList_nil ?_
        exact HK5.out _ _ (sl1 w0 x A7 A8 A9 g p7 p8 p9 kk t tB z1 n1 c1 z2 n2 c2 z3 n3 c3 z4 n4 c4 a1 d1 b1 m1 h1 a2 d2 b2 m2 h2 a3 d3 b3 m3 h3 a4 d4 b4 m4 h4 HH q8 false (fun h => Bool.noConfusion h) (by have hx := hq2; unfold sameB; simp [hx]) _ _ _ _ _ _ _ _ _ _ _ _ _ _ _ _ _ _ _ _ _ _ _ _ _ _ _ _ _ _ _ _ _ _ _ _ _ _ _ _ _ _ _ _ _ _ _ _ _ _ _ _ _ _ _ _ _ _ _ _ _ _ _ _ _ _ _ _ _ _ _ _ _ _ _ _ _ _ _ _ _ _ _ _ _ _ _ _ _ _ _ _ _ _ _ _ _ _ _ _ _ _ _ _ _ _ _ _ _ _ _ _ _ _ _ _ _ _ _ _ _ _ _ _ _ _ _ _ _ _ _ _ _ _ _ _ _ _ _ _ _ _ _ _ _ _ _ _ _ _ _ _ _ _ _ _ _ _ _ _ _ _ _ _ _ _ _ _ _ _ _ _ _ _ _ _ _ _ _ _ _ _ _ _ _ _ _ _ _ _ _ _ _ _ _ _ _ _ _ _ _ _ _ _ _ _ _ _ _ _ _ _ _ _ _ _ _ _ _ _ _ _ _ _ _ _ _ _ _ _ _ _ _ _ _ _ _ _ _ _ _ _ _ _ _ _ _ _ _ _ _ _ _ _ _ _ _ _ _ _ _ _ _ _ _ _ _ _ _ _ _ _ _ _ _ _ _ _ _ _ _ _ _ _ _ _ _ _ _ _ _ _ _ _ _ _ _ _ _ _ _ _ _ wB S0.out)
      | true =>
        have hq2 : eqB (cA t.c) (cA tB.c) = true := C2.out.symm.trans hc2
        rw [hc2] at EC
        by_cases HN1 : (n1 : Int) = (m1 : Int)
        case neg =>
          refine wpList_val (.pointer (some ⟨p7, 0, none⟩)) (by rfl) (by go_simp) ?_
          (try simp only [Act.put, List.getElem_toArray, List.getElem_cons_succ, List.getElem_cons_zero, List.setIfInBounds_toArray, List.set_cons_zero, List.set_cons_succ])
          refine wpList_val (.agg (cfA t.cf)) (by rfl) (run_loadPart_of 34 _ rfl p7 0 rfl 41 _ (cfC t.cf) _ KP7.out (st_cf t _ _ _ _) Try.underlying34 rfl (cf_info t.cf)) ?_
          (try simp only [Act.put, List.getElem_toArray, List.getElem_cons_succ, List.getElem_cons_zero, List.setIfInBounds_toArray, List.set_cons_zero, List.set_cons_succ])
          refine wpList_val (.pointer (some ⟨p8, 0, none⟩)) (by rfl) (by go_simp) ?_
          (try simp only [Act.put, List.getElem_toArray, List.getElem_cons_succ, List.getElem_cons_zero, List.setIfInBounds_toArray, List.set_cons_zero, List.set_cons_succ])
          refine wpList_val (.agg (cfA tB.cf)) (by rfl) (run_loadPart_of 34 _ rfl p8 0 rfl 41 _ (cfC tB.cf) _ KP8.out (st_cf tB _ _ _ _) Try.underlying34 rfl (cf_info tB.cf)) ?_
          (try simp only [Act.put, List.getElem_toArray, List.getElem_cons_succ, List.getElem_cons_zero, List.setIfInBounds_toArray, List.set_cons_zero, List.set_cons_succ])
          refine wpList_val (.bool true) (by rfl) (by have q := EF.out; go_simp) ?_
          (try simp only [Act.put, List.getElem_toArray, List.getElem_cons_succ, List.getElem_cons_zero, List.setIfInBounds_toArray, List.set_cons_zero, List.set_cons_succ])
          refine wpList_val (.bool true) (by rfl) (by go_simp) ?_
          (try simp only [Act.put, List.getElem_toArray, List.getElem_cons_succ, List.getElem_cons_zero, List.setIfInBounds_toArray, List.set_cons_zero, List.set_cons_succ])
          refine wpList_val (.pointer (some ⟨p7, 24, none⟩)) (by rfl) (by go_simp) ?_
          (try simp only [Act.put, List.getElem_toArray, List.getElem_cons_succ, List.getElem_cons_zero, List.setIfInBounds_toArray, List.set_cons_zero, List.set_cons_succ])
          refine wpList_val (.int .i64 t.beat) (by rfl) (by have q := s7.out; go_simp) ?_
          (try simp only [Act.put, List.getElem_toArray, List.getElem_cons_succ, List.getElem_cons_zero, List.setIfInBounds_toArray, List.set_cons_zero, List.set_cons_succ])
          refine wpList_val (.pointer (some ⟨p8, 24, none⟩)) (by rfl) (by go_simp) ?_
          (try simp only [Act.put, List.getElem_toArray, List.getElem_cons_succ, List.getElem_cons_zero, List.setIfInBounds_toArray, List.set_cons_zero, List.set_cons_succ])
          refine wpList_val (.int .i64 tB.beat) (by rfl) (by have q := s8.out; go_simp) ?_
          (try simp only [Act.put, List.getElem_toArray, List.getElem_cons_succ, List.getElem_cons_zero, List.setIfInBounds_toArray, List.set_cons_zero, List.set_cons_succ])
          refine wpList_val (.bool true) (by rfl) (by have q := HB; go_simp) ?_
          (try simp only [Act.put, List.getElem_toArray, List.getElem_cons_succ, List.getElem_cons_zero, List.setIfInBounds_toArray, List.set_cons_zero, List.set_cons_succ])
          refine wpList_val (.bool true) (by rfl) (run_pick_yes (.tmp 37) (.tmp 42) (.const (.bool false)) _ rfl rfl rfl) ?_
          (try simp only [Act.put, List.getElem_toArray, List.getElem_cons_succ, List.getElem_cons_zero, List.setIfInBounds_toArray, List.set_cons_zero, List.set_cons_succ])
          refine wpList_val (.bool true) (by rfl) (run_move (.tmp 43) _ rfl rfl) ?_
          (try simp only [Act.put, List.getElem_toArray, List.getElem_cons_succ, List.getElem_cons_zero, List.setIfInBounds_toArray, List.set_cons_zero, List.set_cons_succ])
          refine wpList_val (.pointer (some ⟨p7, 10, none⟩)) (by rfl) (by go_simp) ?_
          (try simp only [Act.put, List.getElem_toArray, List.getElem_cons_succ, List.getElem_cons_zero, List.setIfInBounds_toArray, List.set_cons_zero, List.set_cons_succ])
          refine wpList_val (.agg (cA t.c)) (by rfl) (run_loadPart_of 39 _ rfl p7 10 rfl 41 _ (cL t.c) _ KP7.out (st_cc t _ _ _ _) Try.underlying39 rfl (cA_info t.c)) ?_
          (try simp only [Act.put, List.getElem_toArray, List.getElem_cons_succ, List.getElem_cons_zero, List.setIfInBounds_toArray, List.set_cons_zero, List.set_cons_succ])
          refine wpList_val (.pointer (some ⟨p8, 10, none⟩)) (by rfl) (by go_simp) ?_
          (try simp only [Act.put, List.getElem_toArray, List.getElem_cons_succ, List.getElem_cons_zero, List.setIfInBounds_toArray, List.set_cons_zero, List.set_cons_succ])
          refine wpList_val (.agg (cA tB.c)) (by rfl) (run_loadPart_of 39 _ rfl p8 10 rfl 41 _ (cL tB.c) _ KP8.out (st_cc tB _ _ _ _) Try.underlying39 rfl (cA_info tB.c)) ?_
          (try simp only [Act.put, List.getElem_toArray, List.getElem_cons_succ, List.getElem_cons_zero, List.setIfInBounds_toArray, List.set_cons_zero, List.set_cons_succ])
          refine wpList_val (.bool true) (by rfl) (by have q := EC.out; go_simp) ?_
          (try simp only [Act.put, List.getElem_toArray, List.getElem_cons_succ, List.getElem_cons_zero, List.setIfInBounds_toArray, List.set_cons_zero, List.set_cons_succ])
          refine wpList_val (.bool true) (by rfl) (run_pick_yes (.tmp 44) (.tmp 49) (.const (.bool false)) _ rfl rfl rfl) ?_
          (try simp only [Act.put, List.getElem_toArray, List.getElem_cons_succ, List.getElem_cons_zero, List.setIfInBounds_toArray, List.set_cons_zero, List.set_cons_succ])
          refine wpList_val (.bool true) (by rfl) (run_move (.tmp 50) _ rfl rfl) ?_
          (try simp only [Act.put, List.getElem_toArray, List.getElem_cons_succ, List.getElem_cons_zero, List.setIfInBounds_toArray, List.set_cons_zero, List.set_cons_succ])
          refine wpList_val (.pointer (some ⟨p7, 6, none⟩)) (by rfl) (by go_simp) ?_
          (try simp only [Act.put, List.getElem_toArray, List.getElem_cons_succ, List.getElem_cons_zero, List.setIfInBounds_toArray, List.set_cons_zero, List.set_cons_succ])
          refine wpList_val (.slice a1 n1 d1) (by rfl) (by have q := c7.out.1; go_simp) ?_
          (try simp only [Act.put, List.getElem_toArray, List.getElem_cons_succ, List.getElem_cons_zero, List.setIfInBounds_toArray, List.set_cons_zero, List.set_cons_succ])
          refine wpList_val (.int .i64 (n1 : Nat)) (by rfl) (by go_simp) ?_
          (try simp only [Act.put, List.getElem_toArray, List.getElem_cons_succ, List.getElem_cons_zero, List.setIfInBounds_toArray, List.set_cons_zero, List.set_cons_succ])
          refine wpList_val (.pointer (some ⟨p8, 6, none⟩)) (by rfl) (by go_simp) ?_
          (try simp only [Act.put, List.getElem_toArray, List.getElem_cons_succ, List.getElem_cons_zero, List.setIfInBounds_toArray, List.set_cons_zero, List.set_cons_succ])
          refine wpList_val (.slice b1 m1 h1) (by rfl) (by have q := c8.out.1; go_simp) ?_
          (try simp only [Act.put, List.getElem_toArray, List.getElem_cons_succ, List.getElem_cons_zero, List.setIfInBounds_toArray, List.set_cons_zero, List.set_cons_succ])
          refine wpList_val (.int .i64 (m1 : Nat)) (by rfl) (by go_simp) ?_
          (try simp only [Act.put, List.getElem_toArray, List.getElem_cons_succ, List.getElem_cons_zero, List.setIfInBounds_toArray, List.set_cons_zero, List.set_cons_succ])
          refine wpList_val (.bool false) (by rfl) (by have q := HN1; go_simp) ?_
          (try simp only [Act.put, List.getElem_toArray, List.getElem_cons_succ, List.getElem_cons_zero, List.setIfInBounds_toArray, List.set_cons_zero, List.set_cons_succ])
          refine wpList_val (.bool false) (by rfl) (run_pick_yes (.tmp 51) (.tmp 58) (.const (.bool false)) _ rfl rfl rfl) ?_
          (try simp only [Act.put, List.getElem_toArray, List.getElem_cons_succ, List.getElem_cons_zero, List.setIfInBounds_toArray, List.set_cons_zero, List.set_cons_succ])
          refine wpList_val (.bool false) (by rfl) (run_move (.tmp 59) _ rfl rfl) ?_
          (try simp only [Act.put, List.getElem_toArray, List.getElem_cons_succ, List.getElem_cons_zero, List.setIfInBounds_toArray, List.set_cons_zero, List.set_cons_succ])
          refine wpList_skip (by kernel_rfl) ?_
          (try simp only [Act.put, List.getElem_toArray, List.getElem_cons_succ, List.getElem_cons_zero, List.setIfInBounds_toArray, List.set_cons_zero, List.set_cons_succ])
          refine wpList_skip (by kernel_rfl) ?_
          (try simp only [Act.put, List.getElem_toArray, List.getElem_cons_succ, List.getElem_cons_zero, List.setIfInBounds_toArray, List.set_cons_zero, List.set_cons_succ])
          refine wpList_skip (by kernel_rfl) ?_
          (try simp only [Act.put, List.getElem_toArray, List.getElem_cons_succ, List.getElem_cons_zero, List.setIfInBounds_toArray, List.set_cons_zero, List.set_cons_succ])
          refine wpList_skip (by kernel_rfl) ?_
          (try simp only [Act.put, List.getElem_toArray, List.getElem_cons_succ, List.getElem_cons_zero, List.setIfInBounds_toArray, List.set_cons_zero, List.set_cons_succ])
          refine wpList_skip (by kernel_rfl) ?_
          (try simp only [Act.put, List.getElem_toArray, List.getElem_cons_succ, List.getElem_cons_zero, List.setIfInBounds_toArray, List.set_cons_zero, List.set_cons_succ])
          refine wpList_skip (by kernel_rfl) ?_
          (try simp only [Act.put, List.getElem_toArray, List.getElem_cons_succ, List.getElem_cons_zero, List.setIfInBounds_toArray, List.set_cons_zero, List.set_cons_succ])
          refine wpList_skip (by kernel_rfl) ?_
          (try simp only [Act.put, List.getElem_toArray, List.getElem_cons_succ, List.getElem_cons_zero, List.setIfInBounds_toArray, List.set_cons_zero, List.set_cons_succ])
          refine wpList_val (.bool false) (by rfl) (run_pick_no (.tmp 60) (.tmp 67) (.const (.bool false)) _ rfl rfl rfl) ?_
          (try simp only [Act.put, List.getElem_toArray, List.getElem_cons_succ, List.getElem_cons_zero, List.setIfInBounds_toArray, List.set_cons_zero, List.set_cons_succ])
          refine wpList_val (.bool false) (by rfl) (run_move (.tmp 68) _ rfl rfl) ?_
          (try simp only [Act.put, List.getElem_toArray, List.getElem_cons_succ, List.getElem_cons_zero, List.setIfInBounds_toArray, List.set_cons_zero, List.set_cons_succ])
          refine wpList_skip (by kernel_rfl) ?_
          (try simp only [Act.put, List.getElem_toArray, List.getElem_cons_succ, List.getElem_cons_zero, List.setIfInBounds_toArray, List.set_cons_zero, List.set_cons_succ])
          refine wpList_skip (by kernel_rfl) ?_
          (try simp only [Act.put, List.getElem_toArray, List.getElem_cons_succ, List.getElem_cons_zero, List.setIfInBounds_toArray, List.set_cons_zero, List.set_cons_succ])
          refine wpList_skip (by kernel_rfl) ?_
          (try simp only [Act.put, List.getElem_toArray, List.getElem_cons_succ, List.getElem_cons_zero, List.setIfInBounds_toArray, List.set_cons_zero, List.set_cons_succ])
          refine wpList_skip (by kernel_rfl) ?_
          (try simp only [Act.put, List.getElem_toArray, List.getElem_cons_succ, List.getElem_cons_zero, List.setIfInBounds_toArray, List.set_cons_zero, List.set_cons_succ])
          refine wpList_skip (by kernel_rfl) ?_
          (try simp only [Act.put, List.getElem_toArray, List.getElem_cons_succ, List.getElem_cons_zero, List.setIfInBounds_toArray, List.set_cons_zero, List.set_cons_succ])
          refine wpList_skip (by kernel_rfl) ?_
          (try simp only [Act.put, List.getElem_toArray, List.getElem_cons_succ, List.getElem_cons_zero, List.setIfInBounds_toArray, List.set_cons_zero, List.set_cons_succ])
          refine wpList_skip (by kernel_rfl) ?_
          (try simp only [Act.put, List.getElem_toArray, List.getElem_cons_succ, List.getElem_cons_zero, List.setIfInBounds_toArray, List.set_cons_zero, List.set_cons_succ])
          refine wpList_val (.bool false) (by rfl) (run_pick_no (.tmp 69) (.tmp 76) (.const (.bool false)) _ rfl rfl rfl) ?_
          (try simp only [Act.put, List.getElem_toArray, List.getElem_cons_succ, List.getElem_cons_zero, List.setIfInBounds_toArray, List.set_cons_zero, List.set_cons_succ])
          refine wpList_val (.bool false) (by rfl) (run_move (.tmp 77) _ rfl rfl) ?_
          (try simp only [Act.put, List.getElem_toArray, List.getElem_cons_succ, List.getElem_cons_zero, List.setIfInBounds_toArray, List.set_cons_zero, List.set_cons_succ])
          refine wpList_skip (by kernel_rfl) ?_
          (try simp only [Act.put, List.getElem_toArray, List.getElem_cons_succ, List.getElem_cons_zero, List.setIfInBounds_toArray, List.set_cons_zero, List.set_cons_succ])
          refine wpList_skip (by kernel_rfl) ?_
          (try simp only [Act.put, List.getElem_toArray, List.getElem_cons_succ, List.getElem_cons_zero, List.setIfInBounds_toArray, List.set_cons_zero, List.set_cons_succ])
          refine wpList_skip (by kernel_rfl) ?_
          (try simp only [Act.put, List.getElem_toArray, List.getElem_cons_succ, List.getElem_cons_zero, List.setIfInBounds_toArray, List.set_cons_zero, List.set_cons_succ])
          refine wpList_skip (by kernel_rfl) ?_
          (try simp only [Act.put, List.getElem_toArray, List.getElem_cons_succ, List.getElem_cons_zero, List.setIfInBounds_toArray, List.set_cons_zero, List.set_cons_succ])
          refine wpList_skip (by kernel_rfl) ?_
          (try simp only [Act.put, List.getElem_toArray, List.getElem_cons_succ, List.getElem_cons_zero, List.setIfInBounds_toArray, List.set_cons_zero, List.set_cons_succ])
          refine wpList_skip (by kernel_rfl) ?_
          (try simp only [Act.put, List.getElem_toArray, List.getElem_cons_succ, List.getElem_cons_zero, List.setIfInBounds_toArray, List.set_cons_zero, List.set_cons_succ])
          refine wpList_skip (by kernel_rfl) ?_
          (try simp only [Act.put, List.getElem_toArray, List.getElem_cons_succ, List.getElem_cons_zero, List.setIfInBounds_toArray, List.set_cons_zero, List.set_cons_succ])
          refine wpList_val (.bool false) (by rfl) (run_pick_no (.tmp 78) (.tmp 85) (.const (.bool false)) _ rfl rfl rfl) ?_
          (try simp only [Act.put, List.getElem_toArray, List.getElem_cons_succ, List.getElem_cons_zero, List.setIfInBounds_toArray, List.set_cons_zero, List.set_cons_succ])
          refine wpList_val (.bool false) (by rfl) (by go_simp) ?_
          (try simp only [Act.put, List.getElem_toArray, List.getElem_cons_succ, List.getElem_cons_zero, List.setIfInBounds_toArray, List.set_cons_zero, List.set_cons_succ])
          refine wpList_nil ?_
          exact HK5.out _ _ (sl1 w0 x A7 A8 A9 g p7 p8 p9 kk t tB z1 n1 c1 z2 n2 c2 z3 n3 c3 z4 n4 c4 a1 d1 b1 m1 h1 a2 d2 b2 m2 h2 a3 d3 b3 m3 h3 a4 d4 b4 m4 h4 HH q8 false (fun h => Bool.noConfusion h) (by have hx := (show eqB t.po tB.po = false from eqB_ne fun e => HN1 (by rw [LA.out.1, LB.out.1, e])); unfold sameB; simp [hx]) _ _ _ _ _ _ _ _ _ _ _ _ _ _ _ _ _ _ _ _ _ _ _ _ _ _ _ _ _ _ _ _ _ _ _ _ _ _ _ _ _ _ _ _ _ _ _ _ _ _ _ _ _ _ _ _ _ _ _ _ _ _ _ _ _ _ _ _ _ _ _ _ _ _ _ _ _ _ _ _ _ _ _ _ _ _ _ _ _ _ _ _ _ _ _ _ _ _ _ _ _ _ _ _ _ _ _ _ _ _ _ _ _ _ _ _ _ _ _ _ _ _ _ _ _ _ _ _ _ _ _ _ _ _ _ _ _ _ _ _ _ _ _ _ _ _ _ _ _ _ _ _ _ _ _ _ _ _ _ _ _ _ _ _ _ _ _ _ _ _ _ _ _ _ _ _ _ _ _ _ _ _ _ _ _ _ _ _ _ _ _ _ _ _ _ _ _ _ _ _ _ _ _ _ _ _ _ _ _ _ _ _ _ _ _ _ _ _ _ _ _ _ _ _ _ _ _ _ _ _ _ _ _ _ _ _ _ _ _ _ _ _ _ _ _ _ _ _ _ _ _ _ _ _ _ _ _ _ _ _ _ _ _ _ _ _ _ _ _ _ _ _ _ _ _ _ _ _ _ _ _ _ _ _ _ _ _ _ _ _ _ _ _ _ _ _ _ _ _ _ _ _ _ wB S0.out)
        case pos =>
          by_cases HN2 : (n2 : Int) = (m2 : Int)
          case neg =>
            refine wpList_val (.pointer (some ⟨p7, 0, none⟩)) (by rfl) (by go_simp) ?_
            (try simp only [Act.put, List.getElem_toArray, List.getElem_cons_succ, List.getElem_cons_zero, List.setIfInBounds_toArray, List.set_cons_zero, List.set_cons_succ])
            refine wpList_val (.agg (cfA t.cf)) (by rfl) (run_loadPart_of 34 _ rfl p7 0 rfl 41 _ (cfC t.cf) _ KP7.out (st_cf t _ _ _ _) Try.underlying34 rfl (cf_info t.cf)) ?_
            (try simp only [Act.put, List.getElem_toArray, List.getElem_cons_succ, List.getElem_cons_zero, List.setIfInBounds_toArray, List.set_cons_zero, List.set_cons_succ])
            refine wpList_val (.pointer (some ⟨p8, 0, none⟩)) (by rfl) (by go_simp) ?_
            (try simp only [Act.put, List.getElem_toArray, List.getElem_cons_succ, List.getElem_cons_zero, List.setIfInBounds_toArray, List.set_cons_zero, List.set_cons_succ])
            refine wpList_val (.agg (cfA tB.cf)) (by rfl) (run_loadPart_of 34 _ rfl p8 0 rfl 41 _ (cfC tB.cf) _ KP8.out (st_cf tB _ _ _ _) Try.underlying34 rfl (cf_info tB.cf)) ?_
            (try simp only [Act.put, List.getElem_toArray, List.getElem_cons_succ, List.getElem_cons_zero, List.setIfInBounds_toArray, List.set_cons_zero, List.set_cons_succ])
            refine wpList_val (.bool true) (by rfl) (by have q := EF.out; go_simp) ?_
            (try simp only [Act.put, List.getElem_toArray, List.getElem_cons_succ, List.getElem_cons_zero, List.setIfInBounds_toArray, List.set_cons_zero, List.set_cons_succ])
            refine wpList_val (.bool true) (by rfl) (by go_simp) ?_
            (try simp only [Act.put, List.getElem_toArray, List.getElem_cons_succ, List.getElem_cons_zero, List.setIfInBounds_toArray, List.set_cons_zero, List.set_cons_succ])
            refine wpList_val (.pointer (some ⟨p7, 24, none⟩)) (by rfl) (by go_simp) ?_
            (try simp only [Act.put, List.getElem_toArray, List.getElem_cons_succ, List.getElem_cons_zero, List.setIfInBounds_toArray, List.set_cons_zero, List.set_cons_succ])
            refine wpList_val (.int .i64 t.beat) (by rfl) (by have q := s7.out; go_simp) ?_
            (try simp only [Act.put, List.getElem_toArray, List.getElem_cons_succ, List.getElem_cons_zero, List.setIfInBounds_toArray, List.set_cons_zero, List.set_cons_succ])
            refine wpList_val (.pointer (some ⟨p8, 24, none⟩)) (by rfl) (by go_simp) ?_
            (try simp only [Act.put, List.getElem_toArray, List.getElem_cons_succ, List.getElem_cons_zero, List.setIfInBounds_toArray, List.set_cons_zero, List.set_cons_succ])
            refine wpList_val (.int .i64 tB.beat) (by rfl) (by have q := s8.out; go_simp) ?_
            (try simp only [Act.put, List.getElem_toArray, List.getElem_cons_succ, List.getElem_cons_zero, List.setIfInBounds_toArray, List.set_cons_zero, List.set_cons_succ])
            refine wpList_val (.bool true) (by rfl) (by have q := HB; go_simp) ?_
            (try simp only [Act.put, List.getElem_toArray, List.getElem_cons_succ, List.getElem_cons_zero, List.setIfInBounds_toArray, List.set_cons_zero, List.set_cons_succ])
            refine wpList_val (.bool true) (by rfl) (run_pick_yes (.tmp 37) (.tmp 42) (.const (.bool false)) _ rfl rfl rfl) ?_
            (try simp only [Act.put, List.getElem_toArray, List.getElem_cons_succ, List.getElem_cons_zero, List.setIfInBounds_toArray, List.set_cons_zero, List.set_cons_succ])
            refine wpList_val (.bool true) (by rfl) (run_move (.tmp 43) _ rfl rfl) ?_
            (try simp only [Act.put, List.getElem_toArray, List.getElem_cons_succ, List.getElem_cons_zero, List.setIfInBounds_toArray, List.set_cons_zero, List.set_cons_succ])
            refine wpList_val (.pointer (some ⟨p7, 10, none⟩)) (by rfl) (by go_simp) ?_
            (try simp only [Act.put, List.getElem_toArray, List.getElem_cons_succ, List.getElem_cons_zero, List.setIfInBounds_toArray, List.set_cons_zero, List.set_cons_succ])
            refine wpList_val (.agg (cA t.c)) (by rfl) (run_loadPart_of 39 _ rfl p7 10 rfl 41 _ (cL t.c) _ KP7.out (st_cc t _ _ _ _) Try.underlying39 rfl (cA_info t.c)) ?_
            (try simp only [Act.put, List.getElem_toArray, List.getElem_cons_succ, List.getElem_cons_zero, List.setIfInBounds_toArray, List.set_cons_zero, List.set_cons_succ])
            refine wpList_val (.pointer (some ⟨p8, 10, none⟩)) (by rfl) (by go_simp) ?_
            (try simp only [Act.put, List.getElem_toArray, List.getElem_cons_succ, List.getElem_cons_zero, List.setIfInBounds_toArray, List.set_cons_zero, List.set_cons_succ])
            refine wpList_val (.agg (cA tB.c)) (by rfl) (run_loadPart_of 39 _ rfl p8 10 rfl 41 _ (cL tB.c) _ KP8.out (st_cc tB _ _ _ _) Try.underlying39 rfl (cA_info tB.c)) ?_
            (try simp only [Act.put, List.getElem_toArray, List.getElem_cons_succ, List.getElem_cons_zero, List.setIfInBounds_toArray, List.set_cons_zero, List.set_cons_succ])
            refine wpList_val (.bool true) (by rfl) (by have q := EC.out; go_simp) ?_
            (try simp only [Act.put, List.getElem_toArray, List.getElem_cons_succ, List.getElem_cons_zero, List.setIfInBounds_toArray, List.set_cons_zero, List.set_cons_succ])
            refine wpList_val (.bool true) (by rfl) (run_pick_yes (.tmp 44) (.tmp 49) (.const (.bool false)) _ rfl rfl rfl) ?_
            (try simp only [Act.put, List.getElem_toArray, List.getElem_cons_succ, List.getElem_cons_zero, List.setIfInBounds_toArray, List.set_cons_zero, List.set_cons_succ])
            refine wpList_val (.bool true) (by rfl) (run_move (.tmp 50) _ rfl rfl) ?_
            (try simp only [Act.put, List.getElem_toArray, List.getElem_cons_succ, List.getElem_cons_zero, List.setIfInBounds_toArray, List.set_cons_zero, List.set_cons_succ])
            refine wpList_val (.pointer (some ⟨p7, 6, none⟩)) (by rfl) (by go_simp) ?_
            (try simp only [Act.put, List.getElem_toArray, List.getElem_cons_succ, List.getElem_cons_zero, List.setIfInBounds_toArray, List.set_cons_zero, List.set_cons_succ])
            refine wpList_val (.slice a1 n1 d1) (by rfl) (by have q := c7.out.1; go_simp) ?_
            (try simp only [Act.put, List.getElem_toArray, List.getElem_cons_succ, List.getElem_cons_zero, List.setIfInBounds_toArray, List.set_cons_zero, List.set_cons_succ])
            refine wpList_val (.int .i64 (n1 : Nat)) (by rfl) (by go_simp) ?_
            (try simp only [Act.put, List.getElem_toArray, List.getElem_cons_succ, List.getElem_cons_zero, List.setIfInBounds_toArray, List.set_cons_zero, List.set_cons_succ])
            refine wpList_val (.pointer (some ⟨p8, 6, none⟩)) (by rfl) (by go_simp) ?_
            (try simp only [Act.put, List.getElem_toArray, List.getElem_cons_succ, List.getElem_cons_zero, List.setIfInBounds_toArray, List.set_cons_zero, List.set_cons_succ])
            refine wpList_val (.slice b1 m1 h1) (by rfl) (by have q := c8.out.1; go_simp) ?_
            (try simp only [Act.put, List.getElem_toArray, List.getElem_cons_succ, List.getElem_cons_zero, List.setIfInBounds_toArray, List.set_cons_zero, List.set_cons_succ])
            refine wpList_val (.int .i64 (m1 : Nat)) (by rfl) (by go_simp) ?_
            (try simp only [Act.put, List.getElem_toArray, List.getElem_cons_succ, List.getElem_cons_zero, List.setIfInBounds_toArray, List.set_cons_zero, List.set_cons_succ])
            refine wpList_val (.bool true) (by rfl) (by have q := HN1; go_simp) ?_
            (try simp only [Act.put, List.getElem_toArray, List.getElem_cons_succ, List.getElem_cons_zero, List.setIfInBounds_toArray, List.set_cons_zero, List.set_cons_succ])
            refine wpList_val (.bool true) (by rfl) (run_pick_yes (.tmp 51) (.tmp 58) (.const (.bool false)) _ rfl rfl rfl) ?_
            (try simp only [Act.put, List.getElem_toArray, List.getElem_cons_succ, List.getElem_cons_zero, List.setIfInBounds_toArray, List.set_cons_zero, List.set_cons_succ])
            refine wpList_val (.bool true) (by rfl) (run_move (.tmp 59) _ rfl rfl) ?_
            (try simp only [Act.put, List.getElem_toArray, List.getElem_cons_succ, List.getElem_cons_zero, List.setIfInBounds_toArray, List.set_cons_zero, List.set_cons_succ])
            refine wpList_val (.pointer (some ⟨p7, 7, none⟩)) (by rfl) (by go_simp) ?_
            (try simp only [Act.put, List.getElem_toArray, List.getElem_cons_succ, List.getElem_cons_zero, List.setIfInBounds_toArray, List.set_cons_zero, List.set_cons_succ])
            refine wpList_val (.slice a2 n2 d2) (by rfl) (by have q := c7.out.2.1; go_simp) ?_
            (try simp only [Act.put, List.getElem_toArray, List.getElem_cons_succ, List.getElem_cons_zero, List.setIfInBounds_toArray, List.set_cons_zero, List.set_cons_succ])
            refine wpList_val (.int .i64 (n2 : Nat)) (by rfl) (by go_simp) ?_
            (try simp only [Act.put, List.getElem_toArray, List.getElem_cons_succ, List.getElem_cons_zero, List.setIfInBounds_toArray, List.set_cons_zero, List.set_cons_succ])
            refine wpList_val (.pointer (some ⟨p8, 7, none⟩)) (by rfl) (by go_simp) ?_
            (try simp only [Act.put, List.getElem_toArray, List.getElem_cons_succ, List.getElem_cons_zero, List.setIfInBounds_toArray, List.set_cons_zero, List.set_cons_succ])
            refine wpList_val (.slice b2 m2 h2) (by rfl) (by have q := c8.out.2.1; go_simp) ?_
            (try simp only [Act.put, List.getElem_toArray, List.getElem_cons_succ, List.getElem_cons_zero, List.setIfInBounds_toArray, List.set_cons_zero, List.set_cons_succ])
            refine wpList_val (.int .i64 (m2 : Nat)) (by rfl) (by go_simp) ?_
            (try simp only [Act.put, List.getElem_toArray, List.getElem_cons_succ, List.getElem_cons_zero, List.setIfInBounds_toArray, List.set_cons_zero, List.set_cons_succ])
            refine wpList_val (.bool false) (by rfl) (by have q := HN2; go_simp) ?_
            (try simp only [Act.put, List.getElem_toArray, List.getElem_cons_succ, List.getElem_cons_zero, List.setIfInBounds_toArray, List.set_cons_zero, List.set_cons_succ])
            refine wpList_val (.bool false) (by rfl) (run_pick_yes (.tmp 60) (.tmp 67) (.const (.bool false)) _ rfl rfl rfl) ?_
            (try simp only [Act.put, List.getElem_toArray, List.getElem_cons_succ, List.getElem_cons_zero, List.setIfInBounds_toArray, List.set_cons_zero, List.set_cons_succ])
            refine wpList_val (.bool false) (by rfl) (run_move (.tmp 68) _ rfl rfl) ?_
            (try simp only [Act.put, List.getElem_toArray, List.getElem_cons_succ, List.getElem_cons_zero, List.setIfInBounds_toArray, List.set_cons_zero, List.set_cons_succ])
            refine wpList_skip (by kernel_rfl) ?_
            (try simp only [Act.put, List.getElem_toArray, List.getElem_cons_succ, List.getElem_cons_zero, List.setIfInBounds_toArray, List.set_cons_zero, List.set_cons_succ])
            refine wpList_skip (by kernel_rfl) ?_
            (try simp only [Act.put, List.getElem_toArray, List.getElem_cons_succ, List.getElem_cons_zero, List.setIfInBounds_toArray, List.set_cons_zero, List.set_cons_succ])
            refine wpList_skip (by kernel_rfl) ?_
            (try simp only [Act.put, List.getElem_toArray, List.getElem_cons_succ, List.getElem_cons_zero, List.setIfInBounds_toArray, List.set_cons_zero, List.set_cons_succ])
            refine wpList_skip (by kernel_rfl) ?_
            (try simp only [Act.put, List.getElem_toArray, List.getElem_cons_succ, List.getElem_cons_zero, List.setIfInBounds_toArray, List.set_cons_zero, List.set_cons_succ])
            refine wpList_skip (by kernel_rfl) ?_
            (try simp only [Act.put, List.getElem_toArray, List.getElem_cons_succ, List.getElem_cons_zero, List.setIfInBounds_toArray, List.set_cons_zero, List.set_cons_succ])
            refine wpList_skip (by kernel_rfl) ?_
            (try simp only [Act.put, List.getElem_toArray, List.getElem_cons_succ, List.getElem_cons_zero, List.setIfInBounds_toArray, List.set_cons_zero, List.set_cons_succ])
            refine wpList_skip (by kernel_rfl) ?_
            (try simp only [Act.put, List.getElem_toArray, List.getElem_cons_succ, List.getElem_cons_zero, List.setIfInBounds_toArray, List.set_cons_zero, List.set_cons_succ])
            refine wpList_val (.bool false) (by rfl) (run_pick_no (.tmp 69) (.tmp 76) (.const (.bool false)) _ rfl rfl rfl) ?_
            (try simp only [Act.put, List.getElem_toArray, List.getElem_cons_succ, List.getElem_cons_zero, List.setIfInBounds_toArray, List.set_cons_zero, List.set_cons_succ])
            refine wpList_val (.bool false) (by rfl) (run_move (.tmp 77) _ rfl rfl) ?_
            (try simp only [Act.put, List.getElem_toArray, List.getElem_cons_succ, List.getElem_cons_zero, List.setIfInBounds_toArray, List.set_cons_zero, List.set_cons_succ])
            refine wpList_skip (by kernel_rfl) ?_
            (try simp only [Act.put, List.getElem_toArray, List.getElem_cons_succ, List.getElem_cons_zero, List.setIfInBounds_toArray, List.set_cons_zero, List.set_cons_succ])
            refine wpList_skip (by kernel_rfl) ?_
            (try simp only [Act.put, List.getElem_toArray, List.getElem_cons_succ, List.getElem_cons_zero, List.setIfInBounds_toArray, List.set_cons_zero, List.set_cons_succ])
            refine wpList_skip (by kernel_rfl) ?_
            (try simp only [Act.put, List.getElem_toArray, List.getElem_cons_succ, List.getElem_cons_zero, List.setIfInBounds_toArray, List.set_cons_zero, List.set_cons_succ])
            refine wpList_skip (by kernel_rfl) ?_
            (try simp only [Act.put, List.getElem_toArray, List.getElem_cons_succ, List.getElem_cons_zero, List.setIfInBounds_toArray, List.set_cons_zero, List.set_cons_succ])
            refine wpList_skip (by kernel_rfl) ?_
            (try simp only [Act.put, List.getElem_toArray, List.getElem_cons_succ, List.getElem_cons_zero, List.setIfInBounds_toArray, List.set_cons_zero, List.set_cons_succ])
            refine wpList_skip (by kernel_rfl) ?_
            (try simp only [Act.put, List.getElem_toArray, List.getElem_cons_succ, List.getElem_cons_zero, List.setIfInBounds_toArray, List.set_cons_zero, List.set_cons_succ])
            refine wpList_skip (by kernel_rfl) ?_
            (try simp only [Act.put, List.getElem_toArray, List.getElem_cons_succ, List.getElem_cons_zero, List.setIfInBounds_toArray, List.set_cons_zero, List.set_cons_succ])
            refine wpList_val (.bool false) (by rfl) (run_pick_no (.tmp 78) (.tmp 85) (.const (.bool false)) _ rfl rfl rfl) ?_
            (try simp only [Act.put, List.getElem_toArray, List.getElem_cons_succ, List.getElem_cons_zero, List.setIfInBounds_toArray, List.set_cons_zero, List.set_cons_succ])
            refine wpList_val (.bool false) (by rfl) (by go_simp) ?_
            (try simp only [Act.put, List.getElem_toArray, List.getElem_cons_succ, List.getElem_cons_zero, List.setIfInBounds_toArray, List.set_cons_zero, List.set_cons_succ])
            refine wpList_nil ?_
            exact HK5.out _ _ (sl1 w0 x A7 A8 A9 g p7 p8 p9 kk t tB z1 n1 c1 z2 n2 c2 z3 n3 c3 z4 n4 c4 a1 d1 b1 m1 h1 a2 d2 b2 m2 h2 a3 d3 b3 m3 h3 a4 d4 b4 m4 h4 HH q8 false (fun h => Bool.noConfusion h) (by have hx := (show eqB t.vl tB.vl = false from eqB_ne fun e => HN2 (by rw [LA.out.2.1, LB.out.2.1, e])); unfold sameB; simp [hx]) _ _ _ _ _ _ _ _ _ _ _ _ _ _ _ _ _ _ _ _ _ _ _ _ _ _ _ _ _ _ _ _ _ _ _ _ _ _ _ _ _ _ _ _ _ _ _ _ _ _ _ _ _ _ _ _ _ _ _ _ _ _ _ _ _ _ _ _ _ _ _ _ _ _ _ _ _ _ _ _ _ _ _ _ _ _ _ _ _ _ _ _ _ _ _ _ _ _ _ _ _ _ _ _ _ _ _ _ _ _ _ _ _ _ _ _ _ _ _ _ _ _ _ _ _ _ _ _ _ _ _ _ _ _ _ _ _ _ _ _ _ _ _ _ _ _ _ _ _ _ _ _ _ _ _ _ _ _ _ _ _ _ _ _ _ _ _ _ _ _ _ _ _ _ _ _ _ _ _ _ _ _ _ _ _ _ _ _ _ _ _ _ _ _ _ _ _ _ _ _ _ _ _ _ _ _ _ _ _ _ _ _ _ _ _ _ _ _ _ _ _ _ _ _ _ _ _ _ _ _ _ _ _ _ _ _ _ _ _ _ _ _ _ _ _ _ _ _ _ _ _ _ _ _ _ _ _ _ _ _ _ _ _ _ _ _ _ _ _ _ _ _ _ _ _ _ _ _ _ _ _ _ _ _ _ _ _ _ _ _ _ _ _ _ _ _ _ _ _ _ _ _ _ wB S0.out)
          case pos =>
            by_cases HN3 : (n3 : Int) = (m3 : Int)
            case neg =>
              refine wpList_val (.pointer (some ⟨p7, 0, none⟩)) (by rfl) (by go_simp) ?_
              (try simp only [Act.put, List.getElem_toArray, List.getElem_cons_succ, List.getElem_cons_zero, List.setIfInBounds_toArray, List.set_cons_zero, List.set_cons_succ])
              refine wpList_val (.agg (cfA t.cf)) (by rfl) (run_loadPart_of 34 _ rfl p7 0 rfl 41 _ (cfC t.cf) _ KP7.out (st_cf t _ _ _ _) Try.underlying34 rfl (cf_info t.cf)) ?_
              (try simp only [Act.put, List.getElem_toArray, List.getElem_cons_succ, List.getElem_cons_zero, List.setIfInBounds_toArray, List.set_cons_zero, List.set_cons_succ])
              refine wpList_val (.pointer (some ⟨p8, 0, none⟩)) (by rfl) (by go_simp) ?_
              (try simp only [Act.put, List.getElem_toArray, List.getElem_cons_succ, List.getElem_cons_zero, List.setIfInBounds_toArray, List.set_cons_zero, List.set_cons_succ])
              refine wpList_val (.agg (cfA tB.cf)) (by rfl) (run_loadPart_of 34 _ rfl p8 0 rfl 41 _ (cfC tB.cf) _ KP8.out (st_cf tB _ _ _ _) Try.underlying34 rfl (cf_info tB.cf)) ?_
              (try simp only [Act.put, List.getElem_toArray, List.getElem_cons_succ, List.getElem_cons_zero, List.setIfInBounds_toArray, List.set_cons_zero, List.set_cons_succ])
              refine wpList_val (.bool true) (by rfl) (by have q := EF.out; go_simp) ?_
              (try simp only [Act.put, List.getElem_toArray, List.getElem_cons_succ, List.getElem_cons_zero, List.setIfInBounds_toArray, List.set_cons_zero, List.set_cons_succ])
              refine wpList_val (.bool true) (by rfl) (by go_simp) ?_
              (try simp only [Act.put, List.getElem_toArray, List.getElem_cons_succ, List.getElem_cons_zero, List.setIfInBounds_toArray, List.set_cons_zero, List.set_cons_succ])
              refine wpList_val (.pointer (some ⟨p7, 24, none⟩)) (by rfl) (by go_simp) ?_
              (try simp only [Act.put, List.getElem_toArray, List.getElem_cons_succ, List.getElem_cons_zero, List.setIfInBounds_toArray, List.set_cons_zero, List.set_cons_succ])
              refine wpList_val (.int .i64 t.beat) (by rfl) (by have q := s7.out; go_simp) ?_
              (try simp only [Act.put, List.getElem_toArray, List.getElem_cons_succ, List.getElem_cons_zero, List.setIfInBounds_toArray, List.set_cons_zero, List.set_cons_succ])
              refine wpList_val (.pointer (some ⟨p8, 24, none⟩)) (by rfl) (by go_simp) ?_
              (try simp only [Act.put, List.getElem_toArray, List.getElem_cons_succ, List.getElem_cons_zero, List.setIfInBounds_toArray, List.set_cons_zero, List.set_cons_succ])
              refine wpList_val (.int .i64 tB.beat) (by rfl) (by have q := s8.out; go_simp) ?_
              (try simp only [Act.put, List.getElem_toArray, List.getElem_cons_succ, List.getElem_cons_zero, List.setIfInBounds_toArray, List.set_cons_zero, List.set_cons_succ])
              refine wpList_val (.bool true) (by rfl) (by have q := HB; go_simp) ?_
              (try simp only [Act.put, List.getElem_toArray, List.getElem_cons_succ, List.getElem_cons_zero, List.setIfInBounds_toArray, List.set_cons_zero, List.set_cons_succ])
              refine wpList_val (.bool true) (by rfl) (run_pick_yes (.tmp 37) (.tmp 42) (.const (.bool false)) _ rfl rfl rfl) ?_
              (try simp only [Act.put, List.getElem_toArray, List.getElem_cons_succ, List.getElem_cons_zero, List.setIfInBounds_toArray, List.set_cons_zero, List.set_cons_succ])
              refine wpList_val (.bool true) (by rfl) (run_move (.tmp 43) _ rfl rfl) ?_
              (try simp only [Act.put, List.getElem_toArray, List.getElem_cons_succ, List.getElem_cons_zero, List.setIfInBounds_toArray, List.set_cons_zero, List.set_cons_succ])
              refine wpList_val (.pointer (some ⟨p7, 10, none⟩)) (by rfl) (by go_simp) ?_
              (try simp only [Act.put, List.getElem_toArray, List.getElem_cons_succ, List.getElem_cons_zero, List.setIfInBounds_toArray, List.set_cons_zero, List.set_cons_succ])
              refine wpList_val (.agg (cA t.c)) (by rfl) (run_loadPart_of 39 _ rfl p7 10 rfl 41 _ (cL t.c) _ KP7.out (st_cc t _ _ _ _) Try.underlying39 rfl (cA_info t.c)) ?_
              (try simp only [Act.put, List.getElem_toArray, List.getElem_cons_succ, List.getElem_cons_zero, List.setIfInBounds_toArray, List.set_cons_zero, List.set_cons_succ])
              refine wpList_val (.pointer (some ⟨p8, 10, none⟩)) (by rfl) (by go_simp) ?_
              (try simp only [Act.put, List.getElem_toArray, List.getElem_cons_succ, List.getElem_cons_zero, List.setIfInBounds_toArray, List.set_cons_zero, List.set_cons_succ])
              refine wpList_val (.agg (cA tB.c)) (by rfl) (run_loadPart_of 39 _ rfl p8 10 rfl 41 _ (cL tB.c) _ KP8.out (st_cc tB _ _ _ _) Try.underlying39 rfl (cA_info tB.c)) ?_
              (try simp only [Act.put, List.getElem_toArray, List.getElem_cons_succ, List.getElem_cons_zero, List.setIfInBounds_toArray, List.set_cons_zero, List.set_cons_succ])
              refine wpList_val (.bool true) (by rfl) (by have q := EC.out; go_simp) ?_
              (try simp only [Act.put, List.getElem_toArray, List.getElem_cons_succ, List.getElem_cons_zero, List.setIfInBounds_toArray, List.set_cons_zero, List.set_cons_succ])
              refine wpList_val (.bool true) (by rfl) (run_pick_yes (.tmp 44) (.tmp 49) (.const (.bool false)) _ rfl rfl rfl) ?_
              (try simp only [Act.put, List.getElem_toArray, List.getElem_cons_succ, List.getElem_cons_zero, List.setIfInBounds_toArray, List.set_cons_zero, List.set_cons_succ])
              refine wpList_val (.bool true) (by rfl) (run_move (.tmp 50) _ rfl rfl) ?_
              (try simp only [Act.put, List.getElem_toArray, List.getElem_cons_succ, List.getElem_cons_zero, List.setIfInBounds_toArray, List.set_cons_zero, List.set_cons_succ])
              refine wpList_val (.pointer (some ⟨p7, 6, none⟩)) (by rfl) (by go_simp) ?_
              (try simp only [Act.put, List.getElem_toArray, List.getElem_cons_succ, List.getElem_cons_zero, List.setIfInBounds_toArray, List.set_cons_zero, List.set_cons_succ])
              refine wpList_val (.slice a1 n1 d1) (by rfl) (by have q := c7.out.1; go_simp) ?_
              (try simp only [Act.put, List.getElem_toArray, List.getElem_cons_succ, List.getElem_cons_zero, List.setIfInBounds_toArray, List.set_cons_zero, List.set_cons_succ])
              refine wpList_val (.int .i64 (n1 : Nat)) (by rfl) (by go_simp) ?_
              (try simp only [Act.put, List.getElem_toArray, List.getElem_cons_succ, List.getElem_cons_zero, List.setIfInBounds_toArray, List.set_cons_zero, List.set_cons_succ])
              refine wpList_val (.pointer (some ⟨p8, 6, none⟩)) (by rfl) (by go_simp) ?_
              (try simp only [Act.put, List.getElem_toArray, List.getElem_cons_succ, List.getElem_cons_zero, List.setIfInBounds_toArray, List.set_cons_zero, List.set_cons_succ])
              refine wpList_val (.slice b1 m1 h1) (by rfl) (by have q := c8.out.1; go_simp) ?_
              (try simp only [Act.put, List.getElem_toArray, List.getElem_cons_succ, List.getElem_cons_zero, List.setIfInBounds_toArray, List.set_cons_zero, List.set_cons_succ])
              refine wpList_val (.int .i64 (m1 : Nat)) (by rfl) (by go_simp) ?_
              (try simp only [Act.put, List.getElem_toArray, List.getElem_cons_succ, List.getElem_cons_zero, List.setIfInBounds_toArray, List.set_cons_zero, List.set_cons_succ])
              refine wpList_val (.bool true) (by rfl) (by have q := HN1; go_simp) ?_
              (try simp only [Act.put, List.getElem_toArray, List.getElem_cons_succ, List.getElem_cons_zero, List.setIfInBounds_toArray, List.set_cons_zero, List.set_cons_succ])
              refine wpList_val (.bool true) (by rfl) (run_pick_yes (.tmp 51) (.tmp 58) (.const (.bool false)) _ rfl rfl rfl) ?_
              (try simp only [Act.put, List.getElem_toArray, List.getElem_cons_succ, List.getElem_cons_zero, List.setIfInBounds_toArray, List.set_cons_zero, List.set_cons_succ])
              refine wpList_val (.bool true) (by rfl) (run_move (.tmp 59) _ rfl rfl) ?_
              (try simp only [Act.put, List.getElem_toArray, List.getElem_cons_succ, List.getElem_cons_zero, List.setIfInBounds_toArray, List.set_cons_zero, List.set_cons_succ])
              refine wpList_val (.pointer (some ⟨p7, 7, none⟩)) (by rfl) (by go_simp) ?_
              (try simp only [Act.put, List.getElem_toArray, List.getElem_cons_succ, List.getElem_cons_zero, List.setIfInBounds_toArray, List.set_cons_zero, List.set_cons_succ])
              refine wpList_val (.slice a2 n2 d2) (by rfl) (by have q := c7.out.2.1; go_simp) ?_
              (try simp only [Act.put, List.getElem_toArray, List.getElem_cons_succ, List.getElem_cons_zero, List.setIfInBounds_toArray, List.set_cons_zero, List.set_cons_succ])
              refine wpList_val (.int .i64 (n2 : Nat)) (by rfl) (by go_simp) ?_
              (try simp only [Act.put, List.getElem_toArray, List.getElem_cons_succ, List.getElem_cons_zero, List.setIfInBounds_toArray, List.set_cons_zero, List.set_cons_succ])
              refine wpList_val (.pointer (some ⟨p8, 7, none⟩)) (by rfl) (by go_simp) ?_
              (try simp only [Act.put, List.getElem_toArray, List.getElem_cons_succ, List.getElem_cons_zero, List.setIfInBounds_toArray, List.set_cons_zero, List.set_cons_succ])
              refine wpList_val (.slice b2 m2 h2) (by rfl) (by have q := c8.out.2.1; go_simp) ?_
              (try simp only [Act.put, List.getElem_toArray, List.getElem_cons_succ, List.getElem_cons_zero, List.setIfInBounds_toArray, List.set_cons_zero, List.set_cons_succ])
              refine wpList_val (.int .i64 (m2 : Nat)) (by rfl) (by go_simp) ?_
              (try simp only [Act.put, List.getElem_toArray, List.getElem_cons_succ, List.getElem_cons_zero, List.setIfInBounds_toArray, List.set_cons_zero, List.set_cons_succ])
              refine wpList_val (.bool true) (by rfl) (by have q := HN2; go_simp) ?_
              (try simp only [Act.put, List.getElem_toArray, List.getElem_cons_succ, List.getElem_cons_zero, List.setIfInBounds_toArray, List.set_cons_zero, List.set_cons_succ])
              refine wpList_val (.bool true) (by rfl) (run_pick_yes (.tmp 60) (.tmp 67) (.const (.bool false)) _ rfl rfl rfl) ?_
              (try simp only [Act.put, List.getElem_toArray, List.getElem_cons_succ, List.getElem_cons_zero, List.setIfInBounds_toArray, List.set_cons_zero, List.set_cons_succ])
              refine wpList_val (.bool true) (by rfl) (run_move (.tmp 68) _ rfl rfl) ?_
              (try simp only [Act.put, List.getElem_toArray, List.getElem_cons_succ, List.getElem_cons_zero, List.setIfInBounds_toArray, List.set_cons_zero, List.set_cons_succ])
              refine wpList_val (.pointer (some ⟨p7, 8, none⟩)) (by rfl) (by go_simp) ?_
              (try simp only [Act.put, List.getElem_toArray, List.getElem_cons_succ, List.getElem_cons_zero, List.setIfInBounds_toArray, List.set_cons_zero, List.set_cons_succ])
              refine wpList_val (.slice a3 n3 d3) (by rfl) (by have q := c7.out.2.2.1; go_simp) ?_
              (try simp only [Act.put, List.getElem_toArray, List.getElem_cons_succ, List.getElem_cons_zero, List.setIfInBounds_toArray, List.set_cons_zero, List.set_cons_succ])
              refine wpList_val (.int .i64 (n3 : Nat)) (by rfl) (by go_simp) ?_
              (try simp only [Act.put, List.getElem_toArray, List.getElem_cons_succ, List.getElem_cons_zero, List.setIfInBounds_toArray, List.set_cons_zero, List.set_cons_succ])
              refine wpList_val (.pointer (some ⟨p8, 8, none⟩)) (by rfl) (by go_simp) ?_
              (try simp only [Act.put, List.getElem_toArray, List.getElem_cons_succ, List.getElem_cons_zero, List.setIfInBounds_toArray, List.set_cons_zero, List.set_cons_succ])
              refine wpList_val (.slice b3 m3 h3) (by rfl) (by have q := c8.out.2.2.1; go_simp) ?_
              (try simp only [Act.put, List.getElem_toArray, List.getElem_cons_succ, List.getElem_cons_zero, List.setIfInBounds_toArray, List.set_cons_zero, List.set_cons_succ])
              refine wpList_val (.int .i64 (m3 : Nat)) (by rfl) (by go_simp) ?_
              (try simp only [Act.put, List.getElem_toArray, List.getElem_cons_succ, List.getElem_cons_zero, List.setIfInBounds_toArray, List.set_cons_zero, List.set_cons_succ])
              refine wpList_val (.bool false) (by rfl) (by have q := HN3; go_simp) ?_
              (try simp only [Act.put, List.getElem_toArray, List.getElem_cons_succ, List.getElem_cons_zero, List.setIfInBounds_toArray, List.set_cons_zero, List.set_cons_succ])
              refine wpList_val (.bool false) (by rfl) (run_pick_yes (.tmp 69) (.tmp 76) (.const (.bool false)) _ rfl rfl rfl) ?_
              (try simp only [Act.put, List.getElem_toArray, List.getElem_cons_succ, List.getElem_cons_zero, List.setIfInBounds_toArray, List.set_cons_zero, List.set_cons_succ])
              refine wpList_val (.bool false) (by rfl) (run_move (.tmp 77) _ rfl rfl) ?_
              (try simp only [Act.put, List.getElem_toArray, List.getElem_cons_succ, List.getElem_cons_zero, List.setIfInBounds_toArray, List.set_cons_zero, List.set_cons_succ])
              refine wpList_skip (by kernel_rfl) ?_
              (try simp only [Act.put, List.getElem_toArray, List.getElem_cons_succ, List.getElem_cons_zero, List.setIfInBounds_toArray, List.set_cons_zero, List.set_cons_succ])
              refine wpList_skip (by kernel_rfl) ?_
              (try simp only [Act.put, List.getElem_toArray, List.getElem_cons_succ, List.getElem_cons_zero, List.setIfInBounds_toArray, List.set_cons_zero, List.set_cons_succ])
              refine wpList_skip (by kernel_rfl) ?_
              (try simp only [Act.put, List.getElem_toArray, List.getElem_cons_succ, List.getElem_cons_zero, List.setIfInBounds_toArray, List.set_cons_zero, List.set_cons_succ])
              refine wpList_skip (by kernel_rfl) ?_
              (try simp only [Act.put, List.getElem_toArray, List.getElem_cons_succ, List.getElem_cons_zero, List.setIfInBounds_toArray, List.set_cons_zero, List.set_cons_succ])
              refine wpList_skip (by kernel_rfl) ?_
              (try simp only [Act.put, List.getElem_toArray, List.getElem_cons_succ, List.getElem_cons_zero, List.setIfInBounds_toArray, List.set_cons_zero, List.set_cons_succ])
              refine wpList_skip (by kernel_rfl) ?_
              (try simp only [Act.put, List.getElem_toArray, List.getElem_cons_succ, List.getElem_cons_zero, List.setIfInBounds_toArray, List.set_cons_zero, List.set_cons_succ])
              refine wpList_skip (by kernel_rfl) ?_
              (try simp only [Act.put, List.getElem_toArray, List.getElem_cons_succ, List.getElem_cons_zero, List.setIfInBounds_toArray, List.set_cons_zero, List.set_cons_succ])
              refine wpList_val (.bool false) (by rfl) (run_pick_no (.tmp 78) (.tmp 85) (.const (.bool false)) _ rfl rfl rfl) ?_
              (try simp only [Act.put, List.getElem_toArray, List.getElem_cons_succ, List.getElem_cons_zero, List.setIfInBounds_toArray, List.set_cons_zero, List.set_cons_succ])
              refine wpList_val (.bool false) (by rfl) (by go_simp) ?_
              (try simp only [Act.put, List.getElem_toArray, List.getElem_cons_succ, List.getElem_cons_zero, List.setIfInBounds_toArray, List.set_cons_zero, List.set_cons_succ])
              refine wpList_nil ?_
              exact HK5.out _ _ (sl1 w0 x A7 A8 A9 g p7 p8 p9 kk t tB z1 n1 c1 z2 n2 c2 z3 n3 c3 z4 n4 c4 a1 d1 b1 m1 h1 a2 d2 b2 m2 h2 a3 d3 b3 m3 h3 a4 d4 b4 m4 h4 HH q8 false (fun h => Bool.noConfusion h) (by have hx := (show eqB t.st tB.st = false from eqB_ne fun e => HN3 (by rw [LA.out.2.2.1, LB.out.2.2.1, e])); unfold sameB; simp [hx]) _ _ _ _ _ _ _ _ _ _ _ _ _ _ _ _ _ _ _ _ _ _ _ _ _ _ _ _ _ _ _ _ _ _ _ _ _ _ _ _ _ _ _ _ _ _ _ _ _ _ _ _ _ _ _ _ _ _ _ _ _ _ _ _ _ _ _ _ _ _ _ _ _ _ _ _ _ _ _ _ _ _ _ _ _ _ _ _ _ _ _ _ _ _ _ _ _ _ _ _ _ _ _ _ _ _ _ _ _ _ _ _ _ _ _ _ _ _ _ _ _ _ _ _ _ _ _ _ _ _ _ _ _ _ _ _ _ _ _ _ _ _ _ _ _ _ _ _ _ _ _ _ _ _ _ _ _ _ _ _ _ _ _ _ _ _ _ _ _ _ _ _ _ _ _ _ _ _ _ _ _ _ _ _ _ _ _ _ _ _ _ _ _ _ _ _ _ _ _ _ _ _ _ _ _ _ _ _ _ _ _ _ _ _ _ _ _ _ _ _ _ _ _ _ _ _ _ _ _ _ _ _ _ _ _ _ _ _ _ _ _ _ _ _ _ _ _ _ _ _ _ _ _ _ _ _ _ _ _ _ _ _ _ _ _ _ _ _ _ _ _ _ _ _ _ _ _ _ _ _ _ _ _ _ _ _ _ _ _ _ _ _ _ _ _ _ _ _ _ _ _ _ _ wB S0.out)
            case pos =>
              by_cases HN4 : (n4 : Int) = (m4 : Int)
              case neg =>
                refine wpList_val (.pointer (some ⟨p7, 0, none⟩)) (by rfl) (by go_simp) ?_
                (try simp only [Act.put, List.getElem_toArray, List.getElem_cons_succ, List.getElem_cons_zero, List.setIfInBounds_toArray, List.set_cons_zero, List.set_cons_succ])
                refine wpList_val (.agg (cfA t.cf)) (by rfl) (run_loadPart_of 34 _ rfl p7 0 rfl 41 _ (cfC t.cf) _ KP7.out (st_cf t _ _ _ _) Try.underlying34 rfl (cf_info t.cf)) ?_
                (try simp only [Act.put, List.getElem_toArray, List.getElem_cons_succ, List.getElem_cons_zero, List.setIfInBounds_toArray, List.set_cons_zero, List.set_cons_succ])
                refine wpList_val (.pointer (some ⟨p8, 0, none⟩)) (by rfl) (by go_simp) ?_
                (try simp only [Act.put, List.getElem_toArray, List.getElem_cons_succ, List.getElem_cons_zero, List.setIfInBounds_toArray, List.set_cons_zero, List.set_cons_succ])
                refine wpList_val (.agg (cfA tB.cf)) (by rfl) (run_loadPart_of 34 _ rfl p8 0 rfl 41 _ (cfC tB.cf) _ KP8.out (st_cf tB _ _ _ _) Try.underlying34 rfl (cf_info tB.cf)) ?_
                (try simp only [Act.put, List.getElem_toArray, List.getElem_cons_succ, List.getElem_cons_zero, List.setIfInBounds_toArray, List.set_cons_zero, List.set_cons_succ])
                refine wpList_val (.bool true) (by rfl) (by have q := EF.out; go_simp) ?_
                (try simp only [Act.put, List.getElem_toArray, List.getElem_cons_succ, List.getElem_cons_zero, List.setIfInBounds_toArray, List.set_cons_zero, List.set_cons_succ])
                refine wpList_val (.bool true) (by rfl) (by go_simp) ?_
                (try simp only [Act.put, List.getElem_toArray, List.getElem_cons_succ, List.getElem_cons_zero, List.setIfInBounds_toArray, List.set_cons_zero, List.set_cons_succ])
                refine wpList_val (.pointer (some ⟨p7, 24, none⟩)) (by rfl) (by go_simp) ?_
                (try simp only [Act.put, List.getElem_toArray, List.getElem_cons_succ, List.getElem_cons_zero, List.setIfInBounds_toArray, List.set_cons_zero, List.set_cons_succ])
                refine wpList_val (.int .i64 t.beat) (by rfl) (by have q := s7.out; go_simp) ?_
                (try simp only [Act.put, List.getElem_toArray, List.getElem_cons_succ, List.getElem_cons_zero, List.setIfInBounds_toArray, List.set_cons_zero, List.set_cons_succ])
                refine wpList_val (.pointer (some ⟨p8, 24, none⟩)) (by rfl) (by go_simp) ?_
                (try simp only [Act.put, List.getElem_toArray, List.getElem_cons_succ, List.getElem_cons_zero, List.setIfInBounds_toArray, List.set_cons_zero, List.set_cons_succ])
                refine wpList_val (.int .i64 tB.beat) (by rfl) (by have q := s8.out; go_simp) ?_
                (try simp only [Act.put, List.getElem_toArray, List.getElem_cons_succ, List.getElem_cons_zero, List.setIfInBounds_toArray, List.set_cons_zero, List.set_cons_succ])
                refine wpList_val (.bool true) (by rfl) (by have q := HB; go_simp) ?_
                (try simp only [Act.put, List.getElem_toArray, List.getElem_cons_succ, List.getElem_cons_zero, List.setIfInBounds_toArray, List.set_cons_zero, List.set_cons_succ])
                refine wpList_val (.bool true) (by rfl) (run_pick_yes (.tmp 37) (.tmp 42) (.const (.bool false)) _ rfl rfl rfl) ?_
                (try simp only [Act.put, List.getElem_toArray, List.getElem_cons_succ, List.getElem_cons_zero, List.setIfInBounds_toArray, List.set_cons_zero, List.set_cons_succ])
                refine wpList_val (.bool true) (by rfl) (run_move (.tmp 43) _ rfl rfl) ?_
                (try simp only [Act.put, List.getElem_toArray, List.getElem_cons_succ, List.getElem_cons_zero, List.setIfInBounds_toArray, List.set_cons_zero, List.set_cons_succ])
                refine wpList_val (.pointer (some ⟨p7, 10, none⟩)) (by rfl) (by go_simp) ?_
                (try simp only [Act.put, List.getElem_toArray, List.getElem_cons_succ, List.getElem_cons_zero, List.setIfInBounds_toArray, List.set_cons_zero, List.set_cons_succ])
                refine wpList_val (.agg (cA t.c)) (by rfl) (run_loadPart_of 39 _ rfl p7 10 rfl 41 _ (cL t.c) _ KP7.out (st_cc t _ _ _ _) Try.underlying39 rfl (cA_info t.c)) ?_
                (try simp only [Act.put, List.getElem_toArray, List.getElem_cons_succ, List.getElem_cons_zero, List.setIfInBounds_toArray, List.set_cons_zero, List.set_cons_succ])
                refine wpList_val (.pointer (some ⟨p8, 10, none⟩)) (by rfl) (by go_simp) ?_
                (try simp only [Act.put, List.getElem_toArray, List.getElem_cons_succ, List.getElem_cons_zero, List.setIfInBounds_toArray, List.set_cons_zero, List.set_cons_succ])
                refine wpList_val (.agg (cA tB.c)) (by rfl) (run_loadPart_of 39 _ rfl p8 10 rfl 41 _ (cL tB.c) _ KP8.out (st_cc tB _ _ _ _) Try.underlying39 rfl (cA_info tB.c)) ?_
                (try simp only [Act.put, List.getElem_toArray, List.getElem_cons_succ, List.getElem_cons_zero, List.setIfInBounds_toArray, List.set_cons_zero, List.set_cons_succ])
                refine wpList_val (.bool true) (by rfl) (by have q := EC.out; go_simp) ?_
                (try simp only [Act.put, List.getElem_toArray, List.getElem_cons_succ, List.getElem_cons_zero, List.setIfInBounds_toArray, List.set_cons_zero, List.set_cons_succ])
                refine wpList_val (.bool true) (by rfl) (run_pick_yes (.tmp 44) (.tmp 49) (.const (.bool false)) _ rfl rfl rfl) ?_
                (try simp only [Act.put, List.getElem_toArray, List.getElem_cons_succ, List.getElem_cons_zero, List.setIfInBounds_toArray, List.set_cons_zero, List.set_cons_succ])
                refine wpList_val (.bool true) (by rfl) (run_move (.tmp 50) _ rfl rfl) ?_
                (try simp only [Act.put, List.getElem_toArray, List.getElem_cons_succ, List.getElem_cons_zero, List.setIfInBounds_toArray, List.set_cons_zero, List.set_cons_succ])
                refine wpList_val (.pointer (some ⟨p7, 6, none⟩)) (by rfl) (by go_simp) ?_
                (try simp only [Act.put, List.getElem_toArray, List.getElem_cons_succ, List.getElem_cons_zero, List.setIfInBounds_toArray, List.set_cons_zero, List.set_cons_succ])
                refine wpList_val (.slice a1 n1 d1) (by rfl) (by have q := c7.out.1; go_simp) ?_
                (try simp only [Act.put, List.getElem_toArray, List.getElem_cons_succ, List.getElem_cons_zero, List.setIfInBounds_toArray, List.set_cons_zero, List.set_cons_succ])
                refine wpList_val (.int .i64 (n1 : Nat)) (by rfl) (by go_simp) ?_
                (try simp only [Act.put, List.getElem_toArray, List.getElem_cons_succ, List.getElem_cons_zero, List.setIfInBounds_toArray, List.set_cons_zero, List.set_cons_succ])
                refine wpList_val (.pointer (some ⟨p8, 6, none⟩)) (by rfl) (by go_simp) ?_
                (try simp only [Act.put, List.getElem_toArray, List.getElem_cons_succ, List.getElem_cons_zero, List.setIfInBounds_toArray, List.set_cons_zero, List.set_cons_succ])
                refine wpList_val (.slice b1 m1 h1) (by rfl) (by have q := c8.out.1; go_simp) ?_
                (try simp only [Act.put, List.getElem_toArray, List.getElem_cons_succ, List.getElem_cons_zero, List.setIfInBounds_toArray, List.set_cons_zero, List.set_cons_succ])
                refine wpList_val (.int .i64 (m1 : Nat)) (by rfl) (by go_simp) ?_
                (try simp only [Act.put, List.getElem_toArray, List.getElem_cons_succ, List.getElem_cons_zero, List.setIfInBounds_toArray, List.set_cons_zero, List.set_cons_succ])
                refine wpList_val (.bool true) (by rfl) (by have q := HN1; go_simp) ?_
                (try simp only [Act.put, List.getElem_toArray, List.getElem_cons_succ, List.getElem_cons_zero, List.setIfInBounds_toArray, List.set_cons_zero, List.set_cons_succ])
                refine wpList_val (.bool true) (by rfl) (run_pick_yes (.tmp 51) (.tmp 58) (.const (.bool false)) _ rfl rfl rfl) ?_
                (try simp only [Act.put, List.getElem_toArray, List.getElem_cons_succ, List.getElem_cons_zero, List.setIfInBounds_toArray, List.set_cons_zero, List.set_cons_succ])
                refine wpList_val (.bool true) (by rfl) (run_move (.tmp 59) _ rfl rfl) ?_
                (try simp only [Act.put, List.getElem_toArray, List.getElem_cons_succ, List.getElem_cons_zero, List.setIfInBounds_toArray, List.set_cons_zero, List.set_cons_succ])
                refine wpList_val (.pointer (some ⟨p7, 7, none⟩)) (by rfl) (by go_simp) ?_
                (try simp only [Act.put, List.getElem_toArray, List.getElem_cons_succ, List.getElem_cons_zero, List.setIfInBounds_toArray, List.set_cons_zero, List.set_cons_succ])
                refine wpList_val (.slice a2 n2 d2) (by rfl) (by have q := c7.out.2.1; go_simp) ?_
                (try simp only [Act.put, List.getElem_toArray, List.getElem_cons_succ, List.getElem_cons_zero, List.setIfInBounds_toArray, List.set_cons_zero, List.set_cons_succ])
                refine wpList_val (.int .i64 (n2 : Nat)) (by rfl) (by go_simp) ?_
                (try simp only [Act.put, List.getElem_toArray, List.getElem_cons_succ, List.getElem_cons_zero, List.setIfInBounds_toArray, List.set_cons_zero, List.set_cons_succ])
                refine wpList_val (.pointer (some ⟨p8, 7, none⟩)) (by rfl) (by go_simp) ?_
                (try simp only [Act.put, List.getElem_toArray, List.getElem_cons_succ, List.getElem_cons_zero, List.setIfInBounds_toArray, List.set_cons_zero, List.set_cons_succ])
                refine wpList_val (.slice b2 m2 h2) (by rfl) (by have q := c8.out.2.1; go_simp) ?_
                (try simp only [Act.put, List.getElem_toArray, List.getElem_cons_succ, List.getElem_cons_zero, List.setIfInBounds_toArray, List.set_cons_zero, List.set_cons_succ])
                refine wpList_val (.int .i64 (m2 : Nat)) (by rfl) (by go_simp) ?_
                (try simp only [Act.put, List.getElem_toArray, List.getElem_cons_succ, List.getElem_cons_zero, List.setIfInBounds_toArray, List.set_cons_zero, List.set_cons_succ])
                refine wpList_val (.bool true) (by rfl) (by have q := HN2; go_simp) ?_
                (try simp only [Act.put, List.getElem_toArray, List.getElem_cons_succ, List.getElem_cons_zero, List.setIfInBounds_toArray, List.set_cons_zero, List.set_cons_succ])
                refine wpList_val (.bool true) (by rfl) (run_pick_yes (.tmp 60) (.tmp 67) (.const (.bool false)) _ rfl rfl rfl) ?_
                (try simp only [Act.put, List.getElem_toArray, List.getElem_cons_succ, List.getElem_cons_zero, List.setIfInBounds_toArray, List.set_cons_zero, List.set_cons_succ])
                refine wpList_val (.bool true) (by rfl) (run_move (.tmp 68) _ rfl rfl) ?_
                (try simp only [Act.put, List.getElem_toArray, List.getElem_cons_succ, List.getElem_cons_zero, List.setIfInBounds_toArray, List.set_cons_zero, List.set_cons_succ])
                refine wpList_val (.pointer (some ⟨p7, 8, none⟩)) (by rfl) (by go_simp) ?_
                (try simp only [Act.put, List.getElem_toArray, List.getElem_cons_succ, List.getElem_cons_zero, List.setIfInBounds_toArray, List.set_cons_zero, List.set_cons_succ])
                refine wpList_val (.slice a3 n3 d3) (by rfl) (by have q := c7.out.2.2.1; go_simp) ?_
                (try simp only [Act.put, List.getElem_toArray, List.getElem_cons_succ, List.getElem_cons_zero, List.setIfInBounds_toArray, List.set_cons_zero, List.set_cons_succ])
                refine wpList_val (.int .i64 (n3 : Nat)) (by rfl) (by go_simp) ?_
                (try simp only [Act.put, List.getElem_toArray, List.getElem_cons_succ, List.getElem_cons_zero, List.setIfInBounds_toArray, List.set_cons_zero, List.set_cons_succ])
                refine wpList_val (.pointer (some ⟨p8, 8, none⟩)) (by rfl) (by go_simp) ?_
                (try simp only [Act.put, List.getElem_toArray, List.getElem_cons_succ, List.getElem_cons_zero, List.setIfInBounds_toArray, List.set_cons_zero, List.set_cons_succ])
                refine wpList_val (.slice b3 m3 h3) (by rfl) (by have q := c8.out.2.2.1; go_simp) ?_
                (try simp only [Act.put, List.getElem_toArray, List.getElem_cons_succ, List.getElem_cons_zero, List.setIfInBounds_toArray, List.set_cons_zero, List.set_cons_succ])
                refine wpList_val (.int .i64 (m3 : Nat)) (by rfl) (by go_simp) ?_
                (try simp only [Act.put, List.getElem_toArray, List.getElem_cons_succ, List.getElem_cons_zero, List.setIfInBounds_toArray, List.set_cons_zero, List.set_cons_succ])
                refine wpList_val (.bool true) (by rfl) (by have q := HN3; go_simp) ?_
                (try simp only [Act.put, List.getElem_toArray, List.getElem_cons_succ, List.getElem_cons_zero, List.setIfInBounds_toArray, List.set_cons_zero, List.set_cons_succ])
                refine wpList_val (.bool true) (by rfl) (run_pick_yes (.tmp 69) (.tmp 76) (.const (.bool false)) _ rfl rfl rfl) ?_
                (try simp only [Act.put, List.getElem_toArray, List.getElem_cons_succ, List.getElem_cons_zero, List.setIfInBounds_toArray, List.set_cons_zero, List.set_cons_succ])
                refine wpList_val (.bool true) (by rfl) (run_move (.tmp 77) _ rfl rfl) ?_
                (try simp only [Act.put, List.getElem_toArray, List.getElem_cons_succ, List.getElem_cons_zero, List.setIfInBounds_toArray, List.set_cons_zero, List.set_cons_succ])
                refine wpList_val (.pointer (some ⟨p7, 9, none⟩)) (by rfl) (by go_simp) ?_
                (try simp only [Act.put, List.getElem_toArray, List.getElem_cons_succ, List.getElem_cons_zero, List.setIfInBounds_toArray, List.set_cons_zero, List.set_cons_succ])
                refine wpList_val (.slice a4 n4 d4) (by rfl) (by have q := c7.out.2.2.2; go_simp) ?_
                (try simp only [Act.put, List.getElem_toArray, List.getElem_cons_succ, List.getElem_cons_zero, List.setIfInBounds_toArray, List.set_cons_zero, List.set_cons_succ])
                refine wpList_val (.int .i64 (n4 : Nat)) (by rfl) (by go_simp) ?_
                (try simp only [Act.put, List.getElem_toArray, List.getElem_cons_succ, List.getElem_cons_zero, List.setIfInBounds_toArray, List.set_cons_zero, List.set_cons_succ])
                refine wpList_val (.pointer (some ⟨p8, 9, none⟩)) (by rfl) (by go_simp) ?_
                (try simp only [Act.put, List.getElem_toArray, List.getElem_cons_succ, List.getElem_cons_zero, List.setIfInBounds_toArray, List.set_cons_zero, List.set_cons_succ])
                refine wpList_val (.slice b4 m4 h4) (by rfl) (by have q := c8.out.2.2.2; go_simp) ?_
                (try simp only [Act.put, List.getElem_toArray, List.getElem_cons_succ, List.getElem_cons_zero, List.setIfInBounds_toArray, List.set_cons_zero, List.set_cons_succ])
                refine wpList_val (.int .i64 (m4 : Nat)) (by rfl) (by go_simp) ?_
                (try simp only [Act.put, List.getElem_toArray, List.getElem_cons_succ, List.getElem_cons_zero, List.setIfInBounds_toArray, List.set_cons_zero, List.set_cons_succ])
                refine wpList_val (.bool false) (by rfl) (by have q := HN4; go_simp) ?_
                (try simp only [Act.put, List.getElem_toArray, List.getElem_cons_succ, List.getElem_cons_zero, List.setIfInBounds_toArray, List.set_cons_zero, List.set_cons_succ])
                refine wpList_val (.bool false) (by rfl) (run_pick_yes (.tmp 78) (.tmp 85) (.const (.bool false)) _ rfl rfl rfl) ?_
                (try simp only [Act.put, List.getElem_toArray, List.getElem_cons_succ, List.getElem_cons_zero, List.setIfInBounds_toArray, List.set_cons_zero, List.set_cons_succ])
                refine wpList_val (.bool false) (by rfl) (by go_simp) ?_
                (try simp only [Act.put, List.getElem_toArray, List.getElem_cons_succ, List.getElem_cons_zero, List.setIfInBounds_toArray, List.set_cons_zero, List.set_cons_succ])
                refine wpList_nil ?_
                exact HK5.out _ _ (sl1 w0 x A7 A8 A9 g p7 p8 p9 kk t tB z1 n1 c1 z2 n2 c2 z3 n3 c3 z4 n4 c4 a1 d1 b1 m1 h1 a2 d2 b2 m2 h2 a3 d3 b3 m3 h3 a4 d4 b4 m4 h4 HH q8 false (fun h => Bool.noConfusion h) (by have hx := (show eqB t.fd tB.fd = false from eqB_ne fun e => HN4 (by rw [LA.out.2.2.2, LB.out.2.2.2, e])); unfold sameB; simp [hx]) _ _ _ _ _ _ _ _ _ _ _ _ _ _ _ _ _ _ _ _ _ _ _ _ _ _ _ _ _ _ _ _ _ _ _ _ _ _ _ _ _ _ _ _ _ _ _ _ _ _ _ _ _ _ _ _ _ _ _ _ _ _ _ _ _ _ _ _ _ _ _ _ _ _ _ _ _ _ _ _ _ _ _ _ _ _ _ _ _ _ _ _ _ _ _ _ _ _ _ _ _ _ _ _ _ _ _ _ _ _ _ _ _ _ _ _ _ _ _ _ _ _ _ _ _ _ _ _ _ _ _ _ _ _ _ _ _ _ _ _ _ _ _ _ _ _ _ _ _ _ _ _ _ _ _ _ _ _ _ _ _ _ _ _ _ _ _ _ _ _ _ _ _ _ _ _ _ _ _ _ _ _ _ _ _ _ _ _ _ _ _ _ _ _ _ _ _ _ _ _ _ _ _ _ _ _ _ _ _ _ _ _ _ _ _ _ _ _ _ _ _ _ _ _ _ _ _ _ _ _ _ _ _ _ _ _ _ _ _ _ _ _ _ _ _ _ _ _ _ _ _ _ _ _ _ _ _ _ _ _ _ _ _ _ _ _ _ _ _ _ _ _ _ _ _ _ _ _ _ _ _ _ _ _ _ _ _ _ _ _ _ _ _ _ _ _ _ _ _ _ _ _ _ wB S0.out)
              case pos =>
                refine wpList_val (.pointer (some ⟨p7, 0, none⟩)) (by rfl) (by go_simp) ?_
                (try simp only [Act.put, List.getElem_toArray, List.getElem_cons_succ, List.getElem_cons_zero, List.setIfInBounds_toArray, List.set_cons_zero, List.set_cons_succ])
                refine wpList_val (.agg (cfA t.cf)) (by rfl) (run_loadPart_of 34 _ rfl p7 0 rfl 41 _ (cfC t.cf) _ KP7.out (st_cf t _ _ _ _) Try.underlying34 rfl (cf_info t.cf)) ?_
                (try simp only [Act.put, List.getElem_toArray, List.getElem_cons_succ, List.getElem_cons_zero, List.setIfInBounds_toArray, List.set_cons_zero, List.set_cons_succ])
                refine wpList_val (.pointer (some ⟨p8, 0, none⟩)) (by rfl) (by go_simp) ?_
                (try simp only [Act.put, List.getElem_toArray, List.getElem_cons_succ, List.getElem_cons_zero, List.setIfInBounds_toArray, List.set_cons_zero, List.set_cons_succ])
                refine wpList_val (.agg (cfA tB.cf)) (by rfl) (run_loadPart_of 34 _ rfl p8 0 rfl 41 _ (cfC tB.cf) _ KP8.out (st_cf tB _ _ _ _) Try.underlying34 rfl (cf_info tB.cf)) ?_
                (try simp only [Act.put, List.getElem_toArray, List.getElem_cons_succ, List.getElem_cons_zero, List.setIfInBounds_toArray, List.set_cons_zero, List.set_cons_succ])
                refine wpList_val (.bool true) (by rfl) (by have q := EF.out; go_simp) ?_
                (try simp only [Act.put, List.getElem_toArray, List.getElem_cons_succ, List.getElem_cons_zero, List.setIfInBounds_toArray, List.set_cons_zero, List.set_cons_succ])
                refine wpList_val (.bool true) (by rfl) (by go_simp) ?_
                (try simp only [Act.put, List.getElem_toArray, List.getElem_cons_succ, List.getElem_cons_zero, List.setIfInBounds_toArray, List.set_cons_zero, List.set_cons_succ])
                refine wpList_val (.pointer (some ⟨p7, 24, none⟩)) (by rfl) (by go_simp) ?_
                (try simp only [Act.put, List.getElem_toArray, List.getElem_cons_succ, List.getElem_cons_zero, List.setIfInBounds_toArray, List.set_cons_zero, List.set_cons_succ])
                refine wpList_val (.int .i64 t.beat) (by rfl) (by have q := s7.out; go_simp) ?_
                (try simp only [Act.put, List.getElem_toArray, List.getElem_cons_succ, List.getElem_cons_zero, List.setIfInBounds_toArray, List.set_cons_zero, List.set_cons_succ])
                refine wpList_val (.pointer (some ⟨p8, 24, none⟩)) (by rfl) (by go_simp) ?_
                (try simp only [Act.put, List.getElem_toArray, List.getElem_cons_succ, List.getElem_cons_zero, List.setIfInBounds_toArray, List.set_cons_zero, List.set_cons_succ])
                refine wpList_val (.int .i64 tB.beat) (by rfl) (by have q := s8.out; go_simp) ?_
                (try simp only [Act.put, List.getElem_toArray, List.getElem_cons_succ, List.getElem_cons_zero, List.setIfInBounds_toArray, List.set_cons_zero, List.set_cons_succ])
                refine wpList_val (.bool true) (by rfl) (by have q := HB; go_simp) ?_
                (try simp only [Act.put, List.getElem_toArray, List.getElem_cons_succ, List.getElem_cons_zero, List.setIfInBounds_toArray, List.set_cons_zero, List.set_cons_succ])
                refine wpList_val (.bool true) (by rfl) (run_pick_yes (.tmp 37) (.tmp 42) (.const (.bool false)) _ rfl rfl rfl) ?_
                (try simp only [Act.put, List.getElem_toArray, List.getElem_cons_succ, List.getElem_cons_zero, List.setIfInBounds_toArray, List.set_cons_zero, List.set_cons_succ])
                refine wpList_val (.bool true) (by rfl) (run_move (.tmp 43) _ rfl rfl) ?_
                (try simp only [Act.put, List.getElem_toArray, List.getElem_cons_succ, List.getElem_cons_zero, List.setIfInBounds_toArray, List.set_cons_zero, List.set_cons_succ])
                refine wpList_val (.pointer (some ⟨p7, 10, none⟩)) (by rfl) (by go_simp) ?_
                (try simp only [Act.put, List.getElem_toArray, List.getElem_cons_succ, List.getElem_cons_zero, List.setIfInBounds_toArray, List.set_cons_zero, List.set_cons_succ])
                refine wpList_val (.agg (cA t.c)) (by rfl) (run_loadPart_of 39 _ rfl p7 10 rfl 41 _ (cL t.c) _ KP7.out (st_cc t _ _ _ _) Try.underlying39 rfl (cA_info t.c)) ?_
                (try simp only [Act.put, List.getElem_toArray, List.getElem_cons_succ, List.getElem_cons_zero, List.setIfInBounds_toArray, List.set_cons_zero, List.set_cons_succ])
                refine wpList_val (.pointer (some ⟨p8, 10, none⟩)) (by rfl) (by go_simp) ?_
                (try simp only [Act.put, List.getElem_toArray, List.getElem_cons_succ, List.getElem_cons_zero, List.setIfInBounds_toArray, List.set_cons_zero, List.set_cons_succ])
                refine wpList_val (.agg (cA tB.c)) (by rfl) (run_loadPart_of 39 _ rfl p8 10 rfl 41 _ (cL tB.c) _ KP8.out (st_cc tB _ _ _ _) Try.underlying39 rfl (cA_info tB.c)) ?_
                (try simp only [Act.put, List.getElem_toArray, List.getElem_cons_succ, List.getElem_cons_zero, List.setIfInBounds_toArray, List.set_cons_zero, List.set_cons_succ])
                refine wpList_val (.bool true) (by rfl) (by have q := EC.out; go_simp) ?_
                (try simp only [Act.put, List.getElem_toArray, List.getElem_cons_succ, List.getElem_cons_zero, List.setIfInBounds_toArray, List.set_cons_zero, List.set_cons_succ])
                refine wpList_val (.bool true) (by rfl) (run_pick_yes (.tmp 44) (.tmp 49) (.const (.bool false)) _ rfl rfl rfl) ?_
                (try simp only [Act.put, List.getElem_toArray, List.getElem_cons_succ, List.getElem_cons_zero, List.setIfInBounds_toArray, List.set_cons_zero, List.set_cons_succ])
                refine wpList_val (.bool true) (by rfl) (run_move (.tmp 50) _ rfl rfl) ?_
                (try simp only [Act.put, List.getElem_toArray, List.getElem_cons_succ, List.getElem_cons_zero, List.setIfInBounds_toArray, List.set_cons_zero, List.set_cons_succ])
                refine wpList_val (.pointer (some ⟨p7, 6, none⟩)) (by rfl) (by go_simp) ?_
                (try simp only [Act.put, List.getElem_toArray, List.getElem_cons_succ, List.getElem_cons_zero, List.setIfInBounds_toArray, List.set_cons_zero, List.set_cons_succ])
                refine wpList_val (.slice a1 n1 d1) (by rfl) (by have q := c7.out.1; go_simp) ?_
                (try simp only [Act.put, List.getElem_toArray, List.getElem_cons_succ, List.getElem_cons_zero, List.setIfInBounds_toArray, List.set_cons_zero, List.set_cons_succ])
                refine wpList_val (.int .i64 (n1 : Nat)) (by rfl) (by go_simp) ?_
                (try simp only [Act.put, List.getElem_toArray, List.getElem_cons_succ, List.getElem_cons_zero, List.setIfInBounds_toArray, List.set_cons_zero, List.set_cons_succ])
                refine wpList_val (.pointer (some ⟨p8, 6, none⟩)) (by rfl) (by go_simp) ?_
                (try simp only [Act.put, List.getElem_toArray, List.getElem_cons_succ, List.getElem_cons_zero, List.setIfInBounds_toArray, List.set_cons_zero, List.set_cons_succ])
                refine wpList_val (.slice b1 m1 h1) (by rfl) (by have q := c8.out.1; go_simp) ?_
                (try simp only [Act.put, List.getElem_toArray, List.getElem_cons_succ, List.getElem_cons_zero, List.setIfInBounds_toArray, List.set_cons_zero, List.set_cons_succ])
                refine wpList_val (.int .i64 (m1 : Nat)) (by rfl) (by go_simp) ?_
                (try simp only [Act.put, List.getElem_toArray, List.getElem_cons_succ, List.getElem_cons_zero, List.setIfInBounds_toArray, List.set_cons_zero, List.set_cons_succ])
                refine wpList_val (.bool true) (by rfl) (by have q := HN1; go_simp) ?_
                (try simp only [Act.put, List.getElem_toArray, List.getElem_cons_succ, List.getElem_cons_zero, List.setIfInBounds_toArray, List.set_cons_zero, List.set_cons_succ])
                refine wpList_val (.bool true) (by rfl) (run_pick_yes (.tmp 51) (.tmp 58) (.const (.bool false)) _ rfl rfl rfl) ?_
                (try simp only [Act.put, List.getElem_toArray, List.getElem_cons_succ, List.getElem_cons_zero, List.setIfInBounds_toArray, List.set_cons_zero, List.set_cons_succ])
                refine wpList_val (.bool true) (by rfl) (run_move (.tmp 59) _ rfl rfl) ?_
                (try simp only [Act.put, List.getElem_toArray, List.getElem_cons_succ, List.getElem_cons_zero, List.setIfInBounds_toArray, List.set_cons_zero, List.set_cons_succ])
                refine wpList_val (.pointer (some ⟨p7, 7, none⟩)) (by rfl) (by go_simp) ?_
                (try simp only [Act.put, List.getElem_toArray, List.getElem_cons_succ, List.getElem_cons_zero, List.setIfInBounds_toArray, List.set_cons_zero, List.set_cons_succ])
                refine wpList_val (.slice a2 n2 d2) (by rfl) (by have q := c7.out.2.1; go_simp) ?_
                (try simp only [Act.put, List.getElem_toArray, List.getElem_cons_succ, List.getElem_cons_zero, List.setIfInBounds_toArray, List.set_cons_zero, List.set_cons_succ])
                refine wpList_val (.int .i64 (n2 : Nat)) (by rfl) (by go_simp) ?_
                (try simp only [Act.put, List.getElem_toArray, List.getElem_cons_succ, List.getElem_cons_zero, List.setIfInBounds_toArray, List.set_cons_zero, List.set_cons_succ])
                refine wpList_val (.pointer (some ⟨p8, 7, none⟩)) (by rfl) (by go_simp) ?_
                (try simp only [Act.put, List.getElem_toArray, List.getElem_cons_succ, List.getElem_cons_zero, List.setIfInBounds_toArray, List.set_cons_zero, List.set_cons_succ])
                refine wpList_val (.slice b2 m2 h2) (by rfl) (by have q := c8.out.2.1; go_simp) ?_
                (try simp only [Act.put, List.getElem_toArray, List.getElem_cons_succ, List.getElem_cons_zero, List.setIfInBounds_toArray, List.set_cons_zero, List.set_cons_succ])
                refine wpList_val (.int .i64 (m2 : Nat)) (by rfl) (by go_simp) ?_
                (try simp only [Act.put, List.getElem_toArray, List.getElem_cons_succ, List.getElem_cons_zero, List.setIfInBounds_toArray, List.set_cons_zero, List.set_cons_succ])
                refine wpList_val (.bool true) (by rfl) (by have q := HN2; go_simp) ?_
                (try simp only [Act.put, List.getElem_toArray, List.getElem_cons_succ, List.getElem_cons_zero, List.setIfInBounds_toArray, List.set_cons_zero, List.set_cons_succ])
                refine wpList_val (.bool true) (by rfl) (run_pick_yes (.tmp 60) (.tmp 67) (.const (.bool false)) _ rfl rfl rfl) ?_
                (try simp only [Act.put, List.getElem_toArray, List.getElem_cons_succ, List.getElem_cons_zero, List.setIfInBounds_toArray, List.set_cons_zero, List.set_cons_succ])
                refine wpList_val (.bool true) (by rfl) (run_move (.tmp 68) _ rfl rfl) ?_
                (try simp only [Act.put, List.getElem_toArray, List.getElem_cons_succ, List.getElem_cons_zero, List.setIfInBounds_toArray, List.set_cons_zero, List.set_cons_succ])
                refine wpList_val (.pointer (some ⟨p7, 8, none⟩)) (by rfl) (by go_simp) ?_
                (try simp only [Act.put, List.getElem_toArray, List.getElem_cons_succ, List.getElem_cons_zero, List.setIfInBounds_toArray, List.set_cons_zero, List.set_cons_succ])
                refine wpList_val (.slice a3 n3 d3) (by rfl) (by have q := c7.out.2.2.1; go_simp) ?_
                (try simp only [Act.put, List.getElem_toArray, List.getElem_cons_succ, List.getElem_cons_zero, List.setIfInBounds_toArray, List.set_cons_zero, List.set_cons_succ])
                refine wpList_val (.int .i64 (n3 : Nat)) (by rfl) (by go_simp) ?_
                (try simp only [Act.put, List.getElem_toArray, List.getElem_cons_succ, List.getElem_cons_zero, List.setIfInBounds_toArray, List.set_cons_zero, List.set_cons_succ])
                refine wpList_val (.pointer (some ⟨p8, 8, none⟩)) (by rfl) (by go_simp) ?_
                (try simp only [Act.put, List.getElem_toArray, List.getElem_cons_succ, List.getElem_cons_zero, List.setIfInBounds_toArray, List.set_cons_zero, List.set_cons_succ])
                refine wpList_val (.slice b3 m3 h3) (by rfl) (by have q := c8.out.2.2.1; go_simp) ?_
                (try simp only [Act.put, List.getElem_toArray, List.getElem_cons_succ, List.getElem_cons_zero, List.setIfInBounds_toArray, List.set_cons_zero, List.set_cons_succ])
                refine wpList_val (.int .i64 (m3 : Nat)) (by rfl) (by go_simp) ?_
                (try simp only [Act.put, List.getElem_toArray, List.getElem_cons_succ, List.getElem_cons_zero, List.setIfInBounds_toArray, List.set_cons_zero, List.set_cons_succ])
                refine wpList_val (.bool true) (by rfl) (by have q := HN3; go_simp) ?_
                (try simp only [Act.put, List.getElem_toArray, List.getElem_cons_succ, List.getElem_cons_zero, List.setIfInBounds_toArray, List.set_cons_zero, List.set_cons_succ])
                refine wpList_val (.bool true) (by rfl) (run_pick_yes (.tmp 69) (.tmp 76) (.const (.bool false)) _ rfl rfl rfl) ?_
                (try simp only [Act.put, List.getElem_toArray, List.getElem_cons_succ, List.getElem_cons_zero, List.setIfInBounds_toArray, List.set_cons_zero, List.set_cons_succ])
                refine wpList_val (.bool true) (by rfl) (run_move (.tmp 77) _ rfl rfl) ?_
                (try simp only [Act.put, List.getElem_toArray, List.getElem_cons_succ, List.getElem_cons_zero, List.setIfInBounds_toArray, List.set_cons_zero, List.set_cons_succ])
                refine wpList_val (.pointer (some ⟨p7, 9, none⟩)) (by rfl) (by go_simp) ?_
                (try simp only [Act.put, List.getElem_toArray, List.getElem_cons_succ, List.getElem_cons_zero, List.setIfInBounds_toArray, List.set_cons_zero, List.set_cons_succ])
                refine wpList_val (.slice a4 n4 d4) (by rfl) (by have q := c7.out.2.2.2; go_simp) ?_
                (try simp only [Act.put, List.getElem_toArray, List.getElem_cons_succ, List.getElem_cons_zero, List.setIfInBounds_toArray, List.set_cons_zero, List.set_cons_succ])
                refine wpList_val (.int .i64 (n4 : Nat)) (by rfl) (by go_simp) ?_
                (try simp only [Act.put, List.getElem_toArray, List.getElem_cons_succ, List.getElem_cons_zero, List.setIfInBounds_toArray, List.set_cons_zero, List.set_cons_succ])
                refine wpList_val (.pointer (some ⟨p8, 9, none⟩)) (by rfl) (by go_simp) ?_
                (try simp only [Act.put, List.getElem_toArray, List.getElem_cons_succ, List.getElem_cons_zero, List.setIfInBounds_toArray, List.set_cons_zero, List.set_cons_succ])
                refine wpList_val (.slice b4 m4 h4) (by rfl) (by have q := c8.out.2.2.2; go_simp) ?_
                (try simp only [Act.put, List.getElem_toArray, List.getElem_cons_succ, List.getElem_cons_zero, List.setIfInBounds_toArray, List.set_cons_zero, List.set_cons_succ])
                refine wpList_val (.int .i64 (m4 : Nat)) (by rfl) (by go_simp) ?_
                (try simp only [Act.put, List.getElem_toArray, List.getElem_cons_succ, List.getElem_cons_zero, List.setIfInBounds_toArray, List.set_cons_zero, List.set_cons_succ])
                refine wpList_val (.bool true) (by rfl) (by have q := HN4; go_simp) ?_
                (try simp only [Act.put, List.getElem_toArray, List.getElem_cons_succ, List.getElem_cons_zero, List.setIfInBounds_toArray, List.set_cons_zero, List.set_cons_succ])
                refine wpList_val (.bool true) (by rfl) (run_pick_yes (.tmp 78) (.tmp 85) (.const (.bool false)) _ rfl rfl rfl) ?_
                (try simp only [Act.put, List.getElem_toArray, List.getElem_cons_succ, List.getElem_cons_zero, List.setIfInBounds_toArray, List.set_cons_zero, List.set_cons_succ])
                refine wpList_val (.bool true) (by rfl) (by go_simp) ?_
                (try simp only [Act.put, List.getElem_toArray, List.getElem_cons_succ, List.getElem_cons_zero, List.setIfInBounds_toArray, List.set_cons_zero, List.set_cons_succ])
                refine wpList_nil ?_
                exact HK5.out _ _ (sl1 w0 x A7 A8 A9 g p7 p8 p9 kk t tB z1 n1 c1 z2 n2 c2 z3 n3 c3 z4 n4 c4 a1 d1 b1 m1 h1 a2 d2 b2 m2 h2 a3 d3 b3 m3 h3 a4 d4 b4 m4 h4 HH q8 true (fun _ => ⟨by omega, by omega, by omega, by omega⟩) (by have hx := (show eqB t.beat tB.beat = true from eqB_iff.2 HB); unfold sameB; rw [hq0, hq2, hx]; simp) _ _ _ _ _ _ _ _ _ _ _ _ _ _ _ _ _ _ _ _ _ _ _ _ _ _ _ _ _ _ _ _ _ _ _ _ _ _ _ _ _ _ _ _ _ _ _ _ _ _ _ _ _ _ _ _ _ _ _ _ _ _ _ _ _ _ _ _ _ _ _ _ _ _ _ _ _ _ _ _ _ _ _ _ _ _ _ _ _ _ _ _ _ _ _ _ _ _ _ _ _ _ _ _ _ _ _ _ _ _ _ _ _ _ _ _ _ _ _ _ _ _ _ _ _ _ _ _ _ _ _ _ _ _ _ _ _ _ _ _ _ _ _ _ _ _ _ _ _ _ _ _ _ _ _ _ _ _ _ _ _ _ _ _ _ _ _ _ _ _ _ _ _ _ _ _ _ _ _ _ _ _ _ _ _ _ _ _ _ _ _ _ _ _ _ _ _ _ _ _ _ _ _ _ _ _ _ _ _ _ _ _ _ _ _ _ _ _ _ _ _ _ _ _ _ _ _ _ _ _ _ _ _ _ _ _ _ _ _ _ _ _ _ _ _ _ _ _ _ _ _ _ _ _ _ _ _ _ _ _ _ _ _ _ _ _ _ _ _ _ _ _ _ _ _ _ _ _ _ _ _ _ _ _ _ _ _ _ _ _ _ _ _ _ _ _ _ _ _ _ _ _ _ wB S0.out)
end Go.Proofs.Ytpbdamnlfpfclaa
end
section
namespace Go.Proofs.Ytpbdamnlfpfclaa
open Go.RowKit
attribute [local irreducible] wpQuiet wpList
set_option linter.unusedSimpArgs false
set_option linter.unusedVariables false

/-- The slots, while two states are made. -/
structure R3S (x xB : Array Value) (kk g : Nat) (f5 f9 f10 f11 f12 f13 f14 f15 f16 f17 f18 f19 f20 f21 f22 f23 f30 f31 f32 f33 f34 f35 f36 f37 f38 f39 f40 f41 f42 f43 f44 f45 f46 f47 f48 f49 f50 f51 f52 f53 f54 f55 f56 f57 f58 f59 f60 f61 f62 f63 f64 f65 f66 f67 f68 f69 f70 f71 f72 f73 f74 f75 f76 f77 f78 f79 f80 f81 f82 f83 f84 f85 f86 f87 f88 f89 f90 f91 f92 f93 f94 f95 f96 f97 f98 f99 f100 f101 f102 f103 f104 f105 f106 f107 f108 f109 f110 f111 f112 f113 f114 f115 f116 f117 f118 f119 f120 f121 f122 f123 f124 f125 f126 f127 f128 f129 f130 f131 f132 f133 f134 f135 f136 f137 f138 f139 f140 f141 f142 f143 f144 f145 f146 f147 f148 f149 f150 f151 f152 f153 f154 f155 f156 f157 f158 f159 f160 f161 f162 f163 f164 f165 f166 f167 f168 f169 f170 f171 f172 f173 f174 f175 f176 f177 f178 f179 f180 f181 f182 f183 f184 f185 f186 f187 f188 f189 f190 f191 f192 f193 f194 f195 f196 f197 f198 f199 f200 f201 f202 f203 f204 f205 f206 f207 f208 f209 f210 f211 f212 f213 f214 f215 f216 f217 f218 f219 f220 f221 f222 f223 f224 f225 f226 f227 f228 f229 f230 f231 f232 f233 f234 f235 f236 f237 f238 f239 f240 f241 f242 f243 f244 f245 f246 f247 f248 f249 f250 f251 f252 f253 f254 f255 f256 f257 f258 f259 f260 f261 f262 f263 f264 f265 f266 f267 f268 f269 f270 f271 f272 f273 f274 f275 f276 f277 f278 f279 f280 f281 f282 f283 f284 f285 f286 f287 f288 f289 f290 f291 f292 f293 f294 f295 f296 f297 f298 f299 f300 f301 f302 f303 f304 f305 f306 f307 f308 : Value) (L : Nat → Bool) (v26 v27 v28 v29 v7 v8 : Value) : Prop where
  e26 : L 0 = true → v26 = .agg x
  e28 : L 2 = true → v28 = .agg xB
abbrev R3F (x xB : Array Value) (kk g : Nat) (f5 f9 f10 f11 f12 f13 f14 f15 f16 f17 f18 f19 f20 f21 f22 f23 f30 f31 f32 f33 f34 f35 f36 f37 f38 f39 f40 f41 f42 f43 f44 f45 f46 f47 f48 f49 f50 f51 f52 f53 f54 f55 f56 f57 f58 f59 f60 f61 f62 f63 f64 f65 f66 f67 f68 f69 f70 f71 f72 f73 f74 f75 f76 f77 f78 f79 f80 f81 f82 f83 f84 f85 f86 f87 f88 f89 f90 f91 f92 f93 f94 f95 f96 f97 f98 f99 f100 f101 f102 f103 f104 f105 f106 f107 f108 f109 f110 f111 f112 f113 f114 f115 f116 f117 f118 f119 f120 f121 f122 f123 f124 f125 f126 f127 f128 f129 f130 f131 f132 f133 f134 f135 f136 f137 f138 f139 f140 f141 f142 f143 f144 f145 f146 f147 f148 f149 f150 f151 f152 f153 f154 f155 f156 f157 f158 f159 f160 f161 f162 f163 f164 f165 f166 f167 f168 f169 f170 f171 f172 f173 f174 f175 f176 f177 f178 f179 f180 f181 f182 f183 f184 f185 f186 f187 f188 f189 f190 f191 f192 f193 f194 f195 f196 f197 f198 f199 f200 f201 f202 f203 f204 f205 f206 f207 f208 f209 f210 f211 f212 f213 f214 f215 f216 f217 f218 f219 f220 f221 f222 f223 f224 f225 f226 f227 f228 f229 f230 f231 f232 f233 f234 f235 f236 f237 f238 f239 f240 f241 f242 f243 f244 f245 f246 f247 f248 f249 f250 f251 f252 f253 f254 f255 f256 f257 f258 f259 f260 f261 f262 f263 f264 f265 f266 f267 f268 f269 f270 f271 f272 f273 f274 f275 f276 f277 f278 f279 f280 f281 f282 f283 f284 f285 f286 f287 f288 f289 f290 f291 f292 f293 f294 f295 f296 f297 f298 f299 f300 f301 f302 f303 f304 f305 f306 f307 f308 : Value) (v26 v27 v28 v29 v7 v8 : Value) : Act := { tmps := #[.agg x, .agg xB, .int .u8 (kk : Nat), .pointer (some ⟨g, 0, none⟩), .pointer (some ⟨g + 1, 0, none⟩), f5, .bool false, v7, v8, f9, f10, f11, f12, f13, f14, f15, f16, f17, f18, f19, f20, f21, f22, f23, .bool true, .bool false, v26, v27, v28, v29, f30, f31, f32, f33, f34, f35, f36, f37, f38, f39, f40, f41, f42, f43, f44, f45, f46, f47, f48, f49, f50, f51, f52, f53, f54, f55, f56, f57, f58, f59, f60, f61, f62, f63, f64, f65, f66, f67, f68, f69, f70, f71, f72, f73, f74, f75, f76, f77, f78, f79, f80, f81, f82, f83, f84, f85, f86, f87, f88, f89, f90, f91, f92, f93, f94, f95, f96, f97, f98, f99, f100, f101, f102, f103, f104, f105, f106, f107, f108, f109, f110, f111, f112, f113, f114, f115, f116, f117, f118, f119, f120, f121, f122, f123, f124, f125, f126, f127, f128, f129, f130, f131, f132, f133, f134, f135, f136, f137, f138, f139, f140, f141, f142, f143, f144, f145, f146, f147, f148, f149, f150, f151, f152, f153, f154, f155, f156, f157, f158, f159, f160, f161, f162, f163, f164, f165, f166, f167, f168, f169, f170, f171, f172, f173, f174, f175, f176, f177, f178, f179, f180, f181, f182, f183, f184, f185, f186, f187, f188, f189, f190, f191, f192, f193, f194, f195, f196, f197, f198, f199, f200, f201, f202, f203, f204, f205, f206, f207, f208, f209, f210, f211, f212, f213, f214, f215, f216, f217, f218, f219, f220, f221, f222, f223, f224, f225, f226, f227, f228, f229, f230, f231, f232, f233, f234, f235, f236, f237, f238, f239, f240, f241, f242, f243, f244, f245, f246, f247, f248, f249, f250, f251, f252, f253, f254, f255, f256, f257, f258, f259, f260, f261, f262, f263, f264, f265, f266, f267, f268, f269, f270, f271, f272, f273, f274, f275, f276, f277, f278, f279, f280, f281, f282, f283, f284, f285, f286, f287, f288, f289, f290, f291, f292, f293, f294, f295, f296, f297, f298, f299, f300, f301, f302, f303, f304, f305, f306, f307, f308], defers := [] }
def R3I (x xB : Array Value) (kk g : Nat) (f5 f9 f10 f11 f12 f13 f14 f15 f16 f17 f18 f19 f20 f21 f22 f23 f30 f31 f32 f33 f34 f35 f36 f37 f38 f39 f40 f41 f42 f43 f44 f45 f46 f47 f48 f49 f50 f51 f52 f53 f54 f55 f56 f57 f58 f59 f60 f61 f62 f63 f64 f65 f66 f67 f68 f69 f70 f71 f72 f73 f74 f75 f76 f77 f78 f79 f80 f81 f82 f83 f84 f85 f86 f87 f88 f89 f90 f91 f92 f93 f94 f95 f96 f97 f98 f99 f100 f101 f102 f103 f104 f105 f106 f107 f108 f109 f110 f111 f112 f113 f114 f115 f116 f117 f118 f119 f120 f121 f122 f123 f124 f125 f126 f127 f128 f129 f130 f131 f132 f133 f134 f135 f136 f137 f138 f139 f140 f141 f142 f143 f144 f145 f146 f147 f148 f149 f150 f151 f152 f153 f154 f155 f156 f157 f158 f159 f160 f161 f162 f163 f164 f165 f166 f167 f168 f169 f170 f171 f172 f173 f174 f175 f176 f177 f178 f179 f180 f181 f182 f183 f184 f185 f186 f187 f188 f189 f190 f191 f192 f193 f194 f195 f196 f197 f198 f199 f200 f201 f202 f203 f204 f205 f206 f207 f208 f209 f210 f211 f212 f213 f214 f215 f216 f217 f218 f219 f220 f221 f222 f223 f224 f225 f226 f227 f228 f229 f230 f231 f232 f233 f234 f235 f236 f237 f238 f239 f240 f241 f242 f243 f244 f245 f246 f247 f248 f249 f250 f251 f252 f253 f254 f255 f256 f257 f258 f259 f260 f261 f262 f263 f264 f265 f266 f267 f268 f269 f270 f271 f272 f273 f274 f275 f276 f277 f278 f279 f280 f281 f282 f283 f284 f285 f286 f287 f288 f289 f290 f291 f292 f293 f294 f295 f296 f297 f298 f299 f300 f301 f302 f303 f304 f305 f306 f307 f308 : Value) (t tB : St) (wb : World) (L : Nat → Bool) (ac : Act) (w : World) : Prop :=
  ∃ v26 v27 v28 v29 v7 v8, ac = R3F x xB kk g f5 f9 f10 f11 f12 f13 f14 f15 f16 f17 f18 f19 f20 f21 f22 f23 f30 f31 f32 f33 f34 f35 f36 f37 f38 f39 f40 f41 f42 f43 f44 f45 f46 f47 f48 f49 f50 f51 f52 f53 f54 f55 f56 f57 f58 f59 f60 f61 f62 f63 f64 f65 f66 f67 f68 f69 f70 f71 f72 f73 f74 f75 f76 f77 f78 f79 f80 f81 f82 f83 f84 f85 f86 f87 f88 f89 f90 f91 f92 f93 f94 f95 f96 f97 f98 f99 f100 f101 f102 f103 f104 f105 f106 f107 f108 f109 f110 f111 f112 f113 f114 f115 f116 f117 f118 f119 f120 f121 f122 f123 f124 f125 f126 f127 f128 f129 f130 f131 f132 f133 f134 f135 f136 f137 f138 f139 f140 f141 f142 f143 f144 f145 f146 f147 f148 f149 f150 f151 f152 f153 f154 f155 f156 f157 f158 f159 f160 f161 f162 f163 f164 f165 f166 f167 f168 f169 f170 f171 f172 f173 f174 f175 f176 f177 f178 f179 f180 f181 f182 f183 f184 f185 f186 f187 f188 f189 f190 f191 f192 f193 f194 f195 f196 f197 f198 f199 f200 f201 f202 f203 f204 f205 f206 f207 f208 f209 f210 f211 f212 f213 f214 f215 f216 f217 f218 f219 f220 f221 f222 f223 f224 f225 f226 f227 f228 f229 f230 f231 f232 f233 f234 f235 f236 f237 f238 f239 f240 f241 f242 f243 f244 f245 f246 f247 f248 f249 f250 f251 f252 f253 f254 f255 f256 f257 f258 f259 f260 f261 f262 f263 f264 f265 f266 f267 f268 f269 f270 f271 f272 f273 f274 f275 f276 f277 f278 f279 f280 f281 f282 f283 f284 f285 f286 f287 f288 f289 f290 f291 f292 f293 f294 f295 f296 f297 f298 f299 f300 f301 f302 f303 f304 f305 f306 f307 f308 v26 v27 v28 v29 v7 v8 ∧ R3S x xB kk g f5 f9 f10 f11 f12 f13 f14 f15 f16 f17 f18 f19 f20 f21 f22 f23 f30 f31 f32 f33 f34 f35 f36 f37 f38 f39 f40 f41 f42 f43 f44 f45 f46 f47 f48 f49 f50 f51 f52 f53 f54 f55 f56 f57 f58 f59 f60 f61 f62 f63 f64 f65 f66 f67 f68 f69 f70 f71 f72 f73 f74 f75 f76 f77 f78 f79 f80 f81 f82 f83 f84 f85 f86 f87 f88 f89 f90 f91 f92 f93 f94 f95 f96 f97 f98 f99 f100 f101 f102 f103 f104 f105 f106 f107 f108 f109 f110 f111 f112 f113 f114 f115 f116 f117 f118 f119 f120 f121 f122 f123 f124 f125 f126 f127 f128 f129 f130 f131 f132 f133 f134 f135 f136 f137 f138 f139 f140 f141 f142 f143 f144 f145 f146 f147 f148 f149 f150 f151 f152 f153 f154 f155 f156 f157 f158 f159 f160 f161 f162 f163 f164 f165 f166 f167 f168 f169 f170 f171 f172 f173 f174 f175 f176 f177 f178 f179 f180 f181 f182 f183 f184 f185 f186 f187 f188 f189 f190 f191 f192 f193 f194 f195 f196 f197 f198 f199 f200 f201 f202 f203 f204 f205 f206 f207 f208 f209 f210 f211 f212 f213 f214 f215 f216 f217 f218 f219 f220 f221 f222 f223 f224 f225 f226 f227 f228 f229 f230 f231 f232 f233 f234 f235 f236 f237 f238 f239 f240 f241 f242 f243 f244 f245 f246 f247 f248 f249 f250 f251 f252 f253 f254 f255 f256 f257 f258 f259 f260 f261 f262 f263 f264 f265 f266 f267 f268 f269 f270 f271 f272 f273 f274 f275 f276 f277 f278 f279 f280 f281 f282 f283 f284 f285 f286 f287 f288 f289 f290 f291 f292 f293 f294 f295 f296 f297 f298 f299 f300 f301 f302 f303 f304 f305 f306 f307 f308 L v26 v27 v28 v29 v7 v8 ∧ T3W wb t tB (L 1) (L 3) (L 4) (L 5) (L 6) (L 7) v27 v29 v7 v8 w
theorem size30b : (Try.prog.info? 30).map (·.size) = some 25 := by kernel_rfl
set_option maxRecDepth 100000 in
set_option maxHeartbeats 16000000 in
theorem same_law (w : World) (s sB : Sd) (ia1 : Option Addr) (in1 im1 : Nat) (ia2 : Option Addr) (in2 im2 : Nat) (ia3 : Option Addr) (in3 im3 : Nat) (ia4 : Option Addr) (in4 im4 : Nat) (ja1 : Option Addr) (jn1 jm1 : Nat) (ja2 : Option Addr) (jn2 jm2 : Nat) (ja3 : Option Addr) (jn3 jm3 : Nat) (ja4 : Option Addr) (jn4 jm4 : Nat) (kk : Nat) (hkk : kk < 256) (ra1 : RowsOk w ia1 in1 im1 21 ppC (fun _ => True) s.ps) (ra2 : RowsOk w ia2 in2 im2 3 v3C V3.ok s.vs) (ra3 : RowsOk w ia3 in3 im3 3 v3C V3.ok s.ss) (ra4 : RowsOk w ia4 in4 im4 4 v4C V4.ok s.fs) (rb1 : RowsOk w ja1 jn1 jm1 21 ppC (fun _ => True) sB.ps) (rb2 : RowsOk w ja2 jn2 jm2 3 v3C V3.ok sB.vs) (rb3 : RowsOk w ja3 jn3 jm3 3 v3C V3.ok sB.ss) (rb4 : RowsOk w ja4 jn4 jm4 4 v4C V4.ok sB.fs) :
    Calls Try.prog 4 #[.agg (inA s ia1 in1 im1 ia2 in2 im2 ia3 in3 im3 ia4 in4 im4), .agg (inA sB ja1 jn1 jm1 ja2 jn2 jm2 ja3 jn3 jm3 ja4 jn4 jm4), .int .u8 (kk : Nat)] w fun e w' => e = .returned (.bool true) ∧ Below w.heap.size w w' := by
  obtain ⟨x, hx⟩ : ∃ x, x = inA s ia1 in1 im1 ia2 in2 im2 ia3 in3 im3 ia4 in4 im4 := ⟨_, rfl⟩
  obtain ⟨xB, hxB⟩ : ∃ x, x = inA sB ja1 jn1 jm1 ja2 jn2 jm2 ja3 jn3 jm3 ja4 jn4 jm4 := ⟨_, rfl⟩
  obtain ⟨g, hg⟩ : ∃ g, g = w.heap.size := ⟨_, rfl⟩
  obtain ⟨w1, hw1⟩ : ∃ w1, w1 = (w.alloc (.cells x 30)).alloc (.cells xB 30) := ⟨_, rfl⟩
  obtain ⟨t, ht⟩ : ∃ t, t = madeS s := ⟨_, rfl⟩
  obtain ⟨tB, htB⟩ : ∃ t, t = madeS sB := ⟨_, rfl⟩
  have B1 := Lib.hid (show Below w.heap.size w w1 by rw [hw1]; exact ((Below.refl _ _).alloc (Nat.le_refl _) _).alloc (by simp) _)
  have KX := Lib.hid (show Blk w1 g x 30 by rw [hw1, hg]; exact (Blk.new _ _ _).alloc _)
  have KB := Lib.hid (show Blk w1 (g + 1) xB 30 by
    have := Blk.new (w.alloc (.cells x 30)) xB 30
    rw [hw1, hg]
    simpa using this)
  have XI := Lib.hid (show (Try.prog.info? 30).map (·.size) = some x.size by rw [hx]; exact size30b)
  have XIB := Lib.hid (show (Try.prog.info? 30).map (·.size) = some xB.size by rw [hxB]; exact size30b)
  have MADE := Lib.hid (show ∀ W, Below w.heap.size w W → Calls Try.prog 6 #[.agg x] W fun e w' => ∃ v, e = .returned v ∧ (∃ u1 u2 u3 u4, v = stV t u1 u2 u3 u4 ∧ OwS w' W.heap.size t u1 u2 u3 u4) ∧ Below W.heap.size W w' from fun W hW => by
    rw [hx, ht]
    exact (made_any W s ia1 in1 im1 ia2 in2 im2 ia3 in3 im3 ia4 in4 im4 (ra1.next hW) (ra2.next hW) (ra3.next hW) (ra4.next hW)).mono fun e w' ⟨u1, u2, u3, u4, q1, q2, q3⟩ => ⟨_, q1, ⟨u1, u2, u3, u4, rfl, q2⟩, q3⟩)
  have MADEB := Lib.hid (show ∀ W, Below w.heap.size w W → Calls Try.prog 6 #[.agg xB] W fun e w' => ∃ v, e = .returned v ∧ (∃ u1 u2 u3 u4, v = stV tB u1 u2 u3 u4 ∧ OwS w' W.heap.size tB u1 u2 u3 u4) ∧ Below W.heap.size W w' from fun W hW => by
    rw [hxB, htB]
    exact (made_any W sB ja1 jn1 jm1 ja2 jn2 jm2 ja3 jn3 jm3 ja4 jn4 jm4 (rb1.next hW) (rb2.next hW) (rb3.next hW) (rb4.next hW)).mono fun e w' ⟨u1, u2, u3, u4, q1, q2, q3⟩ => ⟨_, q1, ⟨u1, u2, u3, u4, rfl, q2⟩, q3⟩)
  have HG := Lib.hid hg
  have HW := Lib.hid hw1
  have HK := Lib.hid hkk
  rw [← hx, ← hxB]
  clear hx hxB hg hw1 ra1 ra2 ra3 ra4 rb1 rb2 rb3 rb4 ht htB hkk
  go_enter Try.func4, Try.ntmps4
  go_upto_region 1 with fail
  rw [← HW.out, ← HG.out]
  go_upto_region 3 with (go_at_call 5; with_reducible refine (speaks_any w1).mono ?_; rintro e w2 ⟨rfl, hb2⟩)
  have B2 := Lib.hid (show Below w.heap.size w w2 from B1.out.trans (hb2.mono B1.out.size))
  have KX2 := Lib.hid (KX.out.below hb2 KX.out.lt)
  have KB2 := Lib.hid (KB.out.below hb2 KB.out.lt)
  clear hb2
  refine wp_region_inv (I := R3I x xB kk g _ _ _ _ _ _ _ _ _ _ _ _ _ _ _ _ _ _ _ _ _ _ _ _ _ _ _ _ _ _ _ _ _ _ _ _ _ _ _ _ _ _ _ _ _ _ _ _ _ _ _ _ _ _ _ _ _ _ _ _ _ _ _ _ _ _ _ _ _ _ _ _ _ _ _ _ _ _ _ _ _ _ _ _ _ _ _ _ _ _ _ _ _ _ _ _ _ _ _ _ _ _ _ _ _ _ _ _ _ _ _ _ _ _ _ _ _ _ _ _ _ _ _ _ _ _ _ _ _ _ _ _ _ _ _ _ _ _ _ _ _ _ _ _ _ _ _ _ _ _ _ _ _ _ _ _ _ _ _ _ _ _ _ _ _ _ _ _ _ _ _ _ _ _ _ _ _ _ _ _ _ _ _ _ _ _ _ _ _ _ _ _ _ _ _ _ _ _ _ _ _ _ _ _ _ _ _ _ _ _ _ _ _ _ _ _ _ _ _ _ _ _ _ _ _ _ _ _ _ _ _ _ _ _ _ _ _ _ _ _ _ _ _ _ _ _ _ _ _ _ _ _ _ _ _ _ _ _ _ _ _ _ _ _ _ _ _ _ _ _ _ _ _ _ _ _ _ _ _ _ _ _ _ _ _ _ _ _ _ _ _ _ _ _ _ t tB w2) (by kernel_rfl) (by kernel_rfl) ⟨_, _, _, _, _, _, rfl, ⟨(fun q => Bool.noConfusion q), (fun q => Bool.noConfusion q)⟩, ⟨(Below.refl _ _).drew, (fun q => Bool.noConfusion q), (fun q => Bool.noConfusion q), (fun q => Bool.noConfusion q), (fun q => Bool.noConfusion q), (fun q => Bool.noConfusion q), (fun q => Bool.noConfusion q), (fun q => Bool.noConfusion q)⟩⟩ ?_ ?_
  · intro o ho Lx ac w' hI hL haft
    obtain ⟨v26, v27, v28, v29, v7, v8, rfl, hs, hw⟩ := hI
    match o, ho with
      | 0, _ => exact i_val rfl (.agg x) w' (by rfl) (run_loadVar_of 30 _ rfl (g) rfl 30 x _ (KX2.out.below hw.below KX2.out.lt) Try.underlying30 rfl XI.out) ⟨_, v27, v28, v29, v7, v8, rfl, { hs with e26 := fun _ => rfl }, hw⟩
      | 1, _ =>
        have ex := hs.e26 (haft 0 (by decide))
        subst ex
        refine i_callx rfl 6 #[.agg x] (fun v w2 => (∃ u1 u2 u3 u4, v = stV t u1 u2 u3 u4 ∧ OwS w2 w'.heap.size t u1 u2 u3 u4) ∧ Below w'.heap.size w' w2) (by rfl) (by go_simp) (MADE.out w' (B2.out.trans (hw.below.mono B2.out.size))) ?_
        intro u w2 ⟨⟨y1, y2, y3, y4, hu, ho⟩, hb⟩
        subst hu
        exact ⟨_, _, v28, v29, v7, v8, rfl, { hs with }, hw.call27 hL ho hb⟩
      | 2, _ => exact i_val rfl (.agg xB) w' (by rfl) (run_loadVar_of 30 _ rfl (g + 1) rfl 30 xB _ (KB2.out.below hw.below KB2.out.lt) Try.underlying30 rfl XIB.out) ⟨v26, v27, _, v29, v7, v8, rfl, { hs with e28 := fun _ => rfl }, hw⟩
      | 3, _ =>
        have ex := hs.e28 (haft 2 (by decide))
        subst ex
        refine i_callx rfl 6 #[.agg xB] (fun v w2 => (∃ u1 u2 u3 u4, v = stV tB u1 u2 u3 u4 ∧ OwS w2 w'.heap.size tB u1 u2 u3 u4) ∧ Below w'.heap.size w' w2) (by rfl) (by go_simp) (MADEB.out w' (B2.out.trans (hw.below.mono B2.out.size))) ?_
        intro u w2 ⟨⟨y1, y2, y3, y4, hu, ho⟩, hb⟩
        subst hu
        exact ⟨v26, v27, _, _, v7, v8, rfl, { hs with }, hw.call29 hL ho hb⟩
      | 4, _ => exact i_val rfl (.pointer (some ⟨w'.heap.size, 0, none⟩)) (w'.alloc (.cells nil25 41)) (by rfl) (by go_simp) ⟨v26, v27, v28, v29, (.pointer (some ⟨w'.heap.size, 0, none⟩)), v8, rfl, { hs with }, hw.alloc7 hL⟩
      | 5, _ => exact i_val rfl (.pointer (some ⟨w'.heap.size, 0, none⟩)) (w'.alloc (.cells nil25 41)) (by rfl) (by go_simp) ⟨v26, v27, v28, v29, v7, (.pointer (some ⟨w'.heap.size, 0, none⟩)), rfl, { hs with }, hw.alloc8 hL⟩
      | 6, _ =>
        have h1 := haft 1 (by decide)
        have h4 := haft 4 (by decide)
        obtain ⟨y1, y2, y3, y4, ev, o, -, -⟩ := hw.p27 h1
        subst ev
        obtain ⟨cc, cs, rfl, hc, hz, hk, -⟩ := hw.q7 h4
        exact i_wp rfl (by rfl) (wp_store_row 41 _ _ rfl cc (stA t y1 y2 y3 y4) rfl rfl 41 cs hk (st_info _ _ _ _ _) hz (st_one o) ⟨v26, _, v28, v29, _, v8, rfl, { hs with }, hw.store7 h1 h4 hk hc rfl⟩)
      | 7, _ =>
        have h1 := haft 3 (by decide)
        have h4 := haft 5 (by decide)
        obtain ⟨y1, y2, y3, y4, ev, o, -, -⟩ := hw.p29 h1
        subst ev
        obtain ⟨cc, cs, rfl, hc, hz, hk, -⟩ := hw.q8 h4
        exact i_wp rfl (by rfl) (wp_store_row 41 _ _ rfl cc (stA tB y1 y2 y3 y4) rfl rfl 41 cs hk (st_info _ _ _ _ _) hz (st_one o) ⟨v26, v27, v28, _, v7, _, rfl, { hs with }, hw.store8 h1 h4 hk hc rfl⟩)
      | k + 8, h =>
        exfalso
        have h2 : k + 8 < 8 := h
        omega
  intro Lx ac w3 hI hall
  obtain ⟨v26, v27, v28, v29, v7, v8, rfl, hs, hw⟩ := hI
  have e26y := hs.e26 (hall 0 (by decide))
  have e28y := hs.e28 (hall 2 (by decide))
  subst e26y
  subst e28y
  obtain ⟨y1, y2, y3, y4, e27, oA, -, -⟩ := hw.p27 (hall 1 (by decide))
  obtain ⟨x1, x2, x3, x4, e29, oB, -, -⟩ := hw.p29 (hall 3 (by decide))
  obtain ⟨p7, A7, ep7, -, s7', k7, h6⟩ := hw.q7 (hall 4 (by decide))
  obtain ⟨p8, A8, ep8, -, -, k8, h7⟩ := hw.q8 (hall 5 (by decide))
  subst ep7
  subst ep8
  have hq7 : A7 = stA t y1 y2 y3 y4 := by
    have := (h6 (hall 6 (by decide))).symm.trans e27
    injection this
  have hq8 : A8 = stA tB x1 x2 x3 x4 := by
    have := (h7 (hall 7 (by decide))).symm.trans e29
    injection this
  have hv27 := h6 (hall 6 (by decide))
  have hv29 := h7 (hall 7 (by decide))
  subst hv27
  subst hv29
  have B3 := Lib.hid (show Below w.heap.size w w3 from B2.out.trans (hw.below.mono B2.out.size))
  have KX3 := Lib.hid (KX2.out.below hw.below KX2.out.lt)
  clear e27 e29 h6 h7 hs hall hw s7'
  obtain ⟨a1, d1, ey, -⟩ := oA.o1.shape
  subst ey
  obtain ⟨a2, d2, ey, -⟩ := oA.o2.shape
  subst ey
  obtain ⟨a3, d3, ey, -⟩ := oA.o3.shape
  subst ey
  obtain ⟨a4, d4, ey, -⟩ := oA.o4.shape
  subst ey
  obtain ⟨b1, h1, ey, -⟩ := oB.o1.shape
  subst ey
  obtain ⟨b2, h2, ey, -⟩ := oB.o2.shape
  subst ey
  obtain ⟨b3, h3, ey, -⟩ := oB.o3.shape
  subst ey
  obtain ⟨b4, h4, ey, -⟩ := oB.o4.shape
  subst ey
  obtain ⟨n1, hn1⟩ : ∃ n, n = t.po.length := ⟨_, rfl⟩
  obtain ⟨m1, hm1⟩ : ∃ n, n = tB.po.length := ⟨_, rfl⟩
  obtain ⟨n2, hn2⟩ : ∃ n, n = t.vl.length := ⟨_, rfl⟩
  obtain ⟨m2, hm2⟩ : ∃ n, n = tB.vl.length := ⟨_, rfl⟩
  obtain ⟨n3, hn3⟩ : ∃ n, n = t.st.length := ⟨_, rfl⟩
  obtain ⟨m3, hm3⟩ : ∃ n, n = tB.st.length := ⟨_, rfl⟩
  obtain ⟨n4, hn4⟩ : ∃ n, n = t.fd.length := ⟨_, rfl⟩
  obtain ⟨m4, hm4⟩ : ∃ n, n = tB.fd.length := ⟨_, rfl⟩
  rw [← hn1, ← hn2, ← hn3, ← hn4] at oA hq7
  rw [← hm1, ← hm2, ← hm3, ← hm4] at oB hq8
  have LA := Lib.hid (show n1 = t.po.length ∧ n2 = t.vl.length ∧ n3 = t.st.length ∧ n4 = t.fd.length from ⟨hn1, hn2, hn3, hn4⟩)
  have LB := Lib.hid (show m1 = tB.po.length ∧ m2 = tB.vl.length ∧ m3 = tB.st.length ∧ m4 = tB.fd.length from ⟨hm1, hm2, hm3, hm4⟩)
  have OA := Lib.hid oA
  have OB := Lib.hid oB
  have K7 := Lib.hid k7
  have K8 := Lib.hid k8
  have Q7 := Lib.hid hq7
  have I7 := Lib.hid (show (Try.prog.info? 41).map (·.size) = some A7.size by rw [hq7]; exact st_info _ _ _ _ _)
  clear oA oB k7 k8 hq7 hn1 hn2 hn3 hn4 hm1 hm2 hm3 hm4
  go_upto_region 4 with fail
  rename_i K4 hK4
  have HK4 := Lib.hid hK4
  clear hK4
  refine wp_region_lit ?_
  refine wpList_val (.agg A7) (by rfl) (run_loadVar_of 41 _ rfl p7 rfl 41 A7 _ K7.out Try.underlying41 rfl I7.out) ?_
  (try simp only [Act.put, List.getElem_toArray, List.getElem_cons_succ, List.getElem_cons_zero, List.setIfInBounds_toArray, List.set_cons_zero, List.set_cons_succ])
  refine wpList_callx 11 #[.agg A7] (fun v w' => (∃ u1 u2 u3 u4, v = stV t u1 u2 u3 u4 ∧ OwS w' w3.heap.size t u1 u2 u3 u4 ∧ Apart u1 u2 u3 u4) ∧ Below w3.heap.size w3 w') (by rfl) (by go_simp) (by
    have h := clone_any OA.out
    rw [show stV t (.slice a1 n1 d1) (.slice a2 n2 d2) (.slice a3 n3 d3) (.slice a4 n4 d4) = .agg A7 by rw [Q7.out]] at h
    exact h.mono fun e w' ⟨u1, u2, u3, u4, q1, q2, q3, q4⟩ => ⟨_, q1, ⟨u1, u2, u3, u4, rfl, q2, q3⟩, q4⟩) ?_
  intro v w4 ⟨⟨r1, r2, r3, r4, hv, oC, ap⟩, hb4⟩
  obtain ⟨z1, c1, ey, -⟩ := oC.o1.shape
  subst ey
  obtain ⟨z2, c2, ey, -⟩ := oC.o2.shape
  subst ey
  obtain ⟨z3, c3, ey, -⟩ := oC.o3.shape
  subst ey
  obtain ⟨z4, c4, ey, -⟩ := oC.o4.shape
  subst ey
  rw [← LA.out.1, ← LA.out.2.1, ← LA.out.2.2.1, ← LA.out.2.2.2] at oC hv ap
  obtain ⟨A9, hA9⟩ : ∃ A, A = stA t (.slice z1 n1 c1) (.slice z2 n2 c2) (.slice z3 n3 c3) (.slice z4 n4 c4) := ⟨_, rfl⟩
  have hv9 : v = .agg A9 := by rw [hv, hA9]
  subst hv9
  clear hv
  have I9 := Lib.hid (show (Try.prog.info? 41).map (·.size) = some A9.size by rw [hA9]; exact st_info _ _ _ _ _)
  have S9 := Lib.hid (show A9.size = 25 by rw [hA9]; rfl)
  have P9 := Lib.hid (show A9.all (·.oneCell') = true by rw [hA9]; exact st_one oC)
  obtain ⟨p9, hp9⟩ : ∃ b, b = w4.heap.size := ⟨_, rfl⟩
  obtain ⟨wB, hwB⟩ : ∃ w', w' = (w4.alloc (.cells nil25 41)).setRow p9 A9 := ⟨_, rfl⟩
  have D4 := Lib.hid (show Below w4.heap.size w4 wB by rw [hwB, hp9]; exact below_setRow ((Below.refl _ _).alloc (Nat.le_refl _) _) (Nat.le_refl _) _)
  have D3 := Lib.hid (show Below w3.heap.size w3 wB from hb4.trans (D4.out.mono hb4.size))
  have K9 := Lib.hid (show Blk wB p9 A9 41 by rw [hwB, hp9]; exact (Blk.new _ _ _).row _)
  have H9 := Lib.hid hp9
  have HB := Lib.hid hwB
  have S0 := Lib.hid (show S22 w x A7 A8 A9 g p7 p8 p9 t tB (.slice a1 n1 d1) (.slice a2 n2 d2) (.slice a3 n3 d3) (.slice a4 n4 d4) z1 n1 c1 z2 n2 c2 z3 n3 c3 z4 n4 c4 (.slice b1 m1 h1) (.slice b2 m2 h2) (.slice b3 m3 h3) (.slice b4 m4 h4) wB from
    ⟨⟨B3.out.trans (D3.out.mono B3.out.size), KX3.out.below D3.out KX3.out.lt, K7.out.below D3.out K7.out.lt, K9.out, ows_mono (OA.out.next D3.out) (Nat.zero_le _), hA9, ows_mono (oC.next D4.out) (Nat.zero_le _)⟩, K8.out.below D3.out K8.out.lt, ows_mono (OB.out.next D3.out) (Nat.zero_le _)⟩)
  have FA := Lib.hid (show ∀ k, w3.heap.size ≤ k → Far (.slice a1 n1 d1) (.slice a2 n2 d2) (.slice a3 n3 d3) (.slice a4 n4 d4) k from fun k hk => far_high OA.out hk)
  have HH := Lib.hid (show SmH w x A7 g p7 p9 kk t (.slice a1 n1 d1) (.slice a2 n2 d2) (.slice a3 n3 d3) (.slice a4 n4 d4) z1 n1 c1 z2 n2 c2 z3 n3 c3 z4 n4 c4 from
    { small := HK.out
      xi := XI.out
      q7 := Q7.out
      l1 := LA.out.1
      l2 := LA.out.2.1
      l3 := LA.out.2.2.1
      l4 := LA.out.2.2.2
      few := by
        have f := OA.out.few
        rw [← LA.out.1, ← LA.out.2.1, ← LA.out.2.2.1, ← LA.out.2.2.2] at f
        exact f
      ap := ap
      away := fun k hk => by
        have hlt : w3.heap.size ≤ k ∧ k < w4.heap.size := by
          rcases hk with hk | hk | hk | hk
          · exact oC.o1.lt k hk
          · exact oC.o2.lt k hk
          · exact oC.o3.lt k hk
          · exact oC.o4.lt k hk
        have h3 := B3.out.size
        have hg := KX3.out.lt
        have h7 := K7.out.lt
        have f := FA.out k hlt.1
        exact ⟨by omega, by omega, by omega, by omega, f.f1, f.f2, f.f3, f.f4⟩
      made := fun W hW => (MADE.out W hW).mono fun e w' ⟨v, q1, ⟨u1, u2, u3, u4, q2, q3⟩, q4⟩ => ⟨v, q1, ⟨_, u1, u2, u3, u4, q2, q3⟩, q4⟩ })
  clear hb4 oC ap hA9 hp9 hwB
  (try simp only [Act.put, List.getElem_toArray, List.getElem_cons_succ, List.getElem_cons_zero, List.setIfInBounds_toArray, List.set_cons_zero, List.set_cons_succ])
  refine wpList_alloc 41 rfl (by rfl) nil25 z41 ?_
  (try simp only [Act.put, List.getElem_toArray, List.getElem_cons_succ, List.getElem_cons_zero, List.setIfInBounds_toArray, List.set_cons_zero, List.set_cons_succ])
  rw [← H9.out]
  refine wpList_store_row rfl 41 _ _ rfl p9 A9 rfl rfl 41 nil25 (by rw [H9.out]; exact Blk.new _ _ _) I9.out (by rw [S9.out]; rfl) P9.out ?_
  (try simp only [Act.put, List.getElem_toArray, List.getElem_cons_succ, List.getElem_cons_zero, List.setIfInBounds_toArray, List.set_cons_zero, List.set_cons_succ])
  refine wpList_nil ?_
  rw [← HB.out]
  exact HK4.out _ _ (s5 w x A7 A8 A9 g p7 p8 p9 kk t tB z1 n1 c1 z2 n2 c2 z3 n3 c3 z4 n4 c4 a1 d1 b1 m1 h1 a2 d2 b2 m2 h2 a3 d3 b3 m3 h3 a4 d4 b4 m4 h4 HH hq8 _ _ _ _ _ _ _ _ _ _ _ _ _ _ _ _ _ _ _ _ _ _ _ _ _ _ _ _ _ _ _ _ _ _ _ _ _ _ _ _ _ _ _ _ _ _ _ _ _ _ _ _ _ _ _ _ _ _ _ _ _ _ _ _ _ _ _ _ _ _ _ _ _ _ _ _ _ _ _ _ _ _ _ _ _ _ _ _ _ _ _ _ _ _ _ _ _ _ _ _ _ _ _ _ _ _ _ _ _ _ _ _ _ _ _ _ _ _ _ _ _ _ _ _ _ _ _ _ _ _ _ _ _ _ _ _ _ _ _ _ _ _ _ _ _ _ _ _ _ _ _ _ _ _ _ _ _ _ _ _ _ _ _ _ _ _ _ _ _ _ _ _ _ _ _ _ _ _ _ _ _ _ _ _ _ _ _ _ _ _ _ _ _ _ _ _ _ _ _ _ _ _ _ _ _ _ _ _ _ _ _ _ _ _ _ _ _ _ _ _ _ _ _ _ _ _ _ _ _ _ _ _ _ _ _ _ _ _ _ _ _ _ _ _ _ _ _ _ _ _ _ _ _ _ _ _ _ _ _ _ _ _ _ _ _ _ _ _ _ _ _ _ _ _ _ _ _ _ _ _ _ _ _ _ _ _ _ _ _ _ _ _ _ _ _ _ _ _ _ _ _ _ _ _ wB S0.out)
end Go.Proofs.Ytpbdamnlfpfclaa
end

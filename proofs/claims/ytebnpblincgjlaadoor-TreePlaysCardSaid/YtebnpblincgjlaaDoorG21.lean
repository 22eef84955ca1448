import Derived.Test.YtebnpblincgjlaaDoorG20
set_option linter.unusedSimpArgs false
set_option linter.unusedVariables false
namespace Go.Proofs.YtebnpblincgjlaaDoor
section
/- record.Same of what is the same; the twin's same. -/
open Go.RowKit
open Ev
set_option maxRecDepth 100000
section
variable (a a2 : Option Addr) (n m m2 : Nat) (l : List Po) (R : Bd)
def eqS (k : Nat) : Ev.St := ⟨sp 26 [(0, .v (.slice a n m)), (1, .v (.slice a2 n m2)), (12, .v (iv (n : Nat))), (13, .v (iv (k : Nat)))], [], [bdO 73 21 poC (.slice a n m) l, bdO 73 21 poC (.slice a2 n m2) l, R]⟩
theorem eq_loop (hl : l.length = n) (hn : n ≤ 1000) : TY Tryd.prog 0 (.loop (loopN Tryd.prog 49 0)) (eqS a a2 n m m2 l R 0) Unit (.exit 0) (fun _ => eqS a a2 n m m2 l R n) := by
  refine T_loop (I := {k : Nat // k ≤ n}) (fun j => eqS a a2 n m m2 l R j.1) (fun j => n - j.1) (by simp) _ (fun ⟨k, hk⟩ => ?_) ⟨0, Nat.zero_le _⟩
  refine step_at (eqS a a2 n m m2 l R k) rfl ?_ ?_ (Nat.zero_le _)
  exact fun go out => [.sp (decide ((k : Int) < (n : Int)))
    (fun d =>
      have h : k < n := by simpa using d
      [.b _ _ d, .so _ l[k]? (fun hx => [.no (by simp at hx; omega)]) fun x hx => [oJx poE 0 a n m h hl, oJd poE 0 a n m hx hl, oJx poE 1 a2 n m2 h hl, oJd poE 1 a2 n m2 hx hl, .q _ _ _ _ _ (q_neq (self_po x)), No, .r _ _ (wrap_next h (by omega)), go ⟨k + 1, h⟩ (by show n - (k + 1) < n - k; omega) _ rfl]])
    (fun d => [.b _ _ d, out () (eqS a a2 n m m2 l R k) (by rw [show k = n by simp at d; omega])])]
  intro _ _; kernel_rfl
end
theorem eq_po (a a2 : Option Addr) (n m m2 : Nat) (l : List Po) (hl : l.length = n) (hn : n ≤ 1000) : Fun Tryd.prog 49 [.slice a n m, .slice a2 n m2] [bdO 73 21 poC (.slice a n m) l, bdO 73 21 poC (.slice a2 n m2) l] Unit (fun _ => .bool true) (fun _ => [bdO 73 21 poC (.slice a n m) l, bdO 73 21 poC (.slice a2 n m2) l]) :=
  ev_fun (fun R fin => [.b (!decide ((n : Int) = (n : Int))) false (by simp), .l _ _ _ _ _ _ (eq_loop a a2 n m m2 l R hl hn) fun _ => [fin ()]]) (fun R β w => by kernel_rfl)
def eq0S (a a2 : Option Addr) (m m2 : Nat) (R : Bd) : Ev.St := ⟨sp 26 [(0, .v (.slice a 0 m)), (1, .v (.slice a2 0 m2)), (12, .v (iv 0)), (13, .v (iv 0))], [], [R]⟩
theorem eq_none (f : Nat) (hf : f = 50 ∨ f = 51 ∨ f = 52) (a a2 : Option Addr) (m m2 : Nat) : Fun Tryd.prog f [.slice a 0 m, .slice a2 0 m2] [] Unit (fun _ => .bool true) (fun _ => []) := by
  have key : ∀ R, TY Tryd.prog 0 (.loop (loopN Tryd.prog f 0)) (eq0S a a2 m m2 R) Unit (.exit 0) (fun _ => eq0S a a2 m m2 R) := fun R => by
    refine T_loop (I := Unit) (fun _ => eq0S a a2 m m2 R) (fun _ => 0) (by simp) _ (fun _ => ?_) ()
    refine step_at (eq0S a a2 m m2 R) rfl ?_ ?_ (Nat.zero_le _)
    exact fun go out => [No, out () _ rfl]
    rcases hf with rfl | rfl | rfl <;> (intro _ _; kernel_rfl)
  rcases hf with rfl | rfl | rfl
  · exact ev_fun (fun R fin => [No, .l _ _ _ _ _ _ (key R) fun _ => [fin ()]]) (fun R β w => by kernel_rfl)
  · exact ev_fun (fun R fin => [No, .l _ _ _ _ _ _ (key R) fun _ => [fin ()]]) (fun R β w => by kernel_rfl)
  · exact ev_fun (fun R fin => [No, .l _ _ _ _ _ _ (key R) fun _ => [fin ()]]) (fun R β w => by kernel_rfl)
/-- A state without VLANs, static entries and stations: as all are that the law makes. -/
def Bare (s : Go.Proofs.YtebnpblincgjlaaDoor.St) : Prop := s.vl = [] ∧ s.st = [] ∧ s.fd = []
def sameA (s : Go.Proofs.YtebnpblincgjlaaDoor.St) (x y : H4) : Bds := [bdO 73 21 poC (.slice x.1.1 s.po.length x.1.2) s.po, bdO 73 21 poC (.slice y.1.1 s.po.length y.1.2) s.po]
theorem same_fun (cf : Cf) (po : List Po) (c : Nat → Int) (beat : Int) (x y : H4) (hn : po.length ≤ 1000) : Fun Tryd.prog 19 [stH ⟨cf, po, [], [], [], c, beat⟩ x, stH ⟨cf, po, [], [], [], c, beat⟩ y] (sameA ⟨cf, po, [], [], [], c, beat⟩ x y) Unit (fun _ => .bool true) (fun _ => sameA ⟨cf, po, [], [], [], c, beat⟩ x y) := by
  have h1 := eq_po x.1.1 y.1.1 po.length x.1.2 y.1.2 po rfl hn
  have h2 := eq_none 50 (.inl rfl) x.2.1.1 y.2.1.1 x.2.1.2 y.2.1.2
  have h3 := eq_none 51 (.inr (.inl rfl)) x.2.2.1.1 y.2.2.1.1 x.2.2.1.2 y.2.2.1.2
  have h4 := eq_none 52 (.inr (.inr rfl)) x.2.2.2.1 y.2.2.2.1 x.2.2.2.2 y.2.2.2.2
  exact ev_funE (fun R fin => [.q _ _ _ _ _ (q_eql (self_cf cf)), Yes, oU true h1 0, Yes, oU true h2 0, Yes, oU true h3 0, Yes, oU true h4 0, Yes, .q _ _ _ _ _ (q_eql (self_38 c)), Yes, fin () (.bool (decide (beat = beat))) _ (by simp) rfl]) (fun R β w => by kernel_rfl)
end
section
/- The twin's same. -/
open Go.RowKit
open Ev
set_option maxRecDepth 100000
def otV (told : List Td) (fl : List Int) (z : H2) : Value := .agg #[.slice z.1.1 told.length z.1.2, .slice z.2.1 fl.length z.2.2]
section
variable (cf : Cf) (po : List Po) (c : Nat → Int) (beat : Int) (told : List Td) (fl : List Int) (h x : H4) (z zo : H2) (R : Bd)
abbrev bare : Go.Proofs.YtebnpblincgjlaaDoor.St := ⟨cf, po, [], [], [], c, beat⟩
def tsA : Bds := [bdO 73 21 poC (.slice x.1.1 po.length x.1.2) po, bdO 73 21 poC (.slice h.1.1 po.length h.1.2) po, bdO 89 17 tdC (.slice z.1.1 told.length z.1.2) told, bdO 3 1 inC (.slice z.2.1 fl.length z.2.2) fl, bdO 89 17 tdC (.slice zo.1.1 told.length zo.1.2) told, bdO 3 1 inC (.slice zo.2.1 fl.length zo.2.2) fl]
def tsS (e : List (Nat × SV)) : Ev.St := ⟨sp 84 ([(0, .p 0 0), (5, .p 2 0)] ++ e), [(acA ⟨bare cf po c beat, told, fl⟩ (hpN (bare cf po c beat) h) z, 47), ((stH (bare cf po c beat) x).cells, 40), (#[.slice zo.1.1 told.length zo.1.2, .slice zo.2.1 fl.length zo.2.2], 49)], tsA po told fl h x z zo ++ [R]⟩
theorem ts_told (hn : told.length ≤ 2000) : TY Tryd.prog 1 (.loop (loopN Tryd.prog 11 0)) (tsS cf po c beat told fl h x z zo R [(7, .v (iv (0 : Nat)))]) Unit (.exit 0) (fun _ => tsS cf po c beat told fl h x z zo R []) := by
  refine T_loop (I := {k : Nat // k ≤ told.length}) (fun j => tsS cf po c beat told fl h x z zo R [(7, .v (iv (j.1 : Nat)))]) (fun j => told.length - j.1) (by simp) _ (fun ⟨k, hk⟩ => ?_) ⟨0, Nat.zero_le _⟩
  refine step_at (tsS cf po c beat told fl h x z zo R [(7, .v (iv (k : Nat)))]) rfl ?_ ?_ (by show 1 ≤ 3; decide)
  exact fun go out => [.sp (decide ((k : Int) < (told.length : Int)))
    (fun d =>
      have hk : k < told.length := by simpa using d
      [.b _ _ d, .so _ told[k]? (fun hx => [.no (by simp at hx; omega)]) fun w hw => [oJx tdE 4 zo.1.1 told.length zo.1.2 hk rfl, oJd tdE 4 zo.1.1 told.length zo.1.2 hw rfl, oJx tdE 2 z.1.1 told.length z.1.2 hk rfl, oJd tdE 2 z.1.1 told.length z.1.2 hw rfl, .q _ _ _ _ _ (q_neq (self_td w)), No, .r _ _ (wrap_next hk (by omega)), go ⟨k + 1, hk⟩ (by show told.length - (k + 1) < told.length - k; omega) _ rfl]])
    (fun d => [.b _ _ d, out () (tsS cf po c beat told fl h x z zo R []) rfl])]
  intro _ _; kernel_rfl
theorem ts_fl (hn : fl.length ≤ 2000) : TY Tryd.prog 1 (.loop (loopN Tryd.prog 11 1)) (tsS cf po c beat told fl h x z zo R [(8, .v (iv (0 : Nat)))]) Unit (.exit 2) (fun _ => tsS cf po c beat told fl h x z zo R []) := by
  refine T_loop (I := {k : Nat // k ≤ fl.length}) (fun j => tsS cf po c beat told fl h x z zo R [(8, .v (iv (j.1 : Nat)))]) (fun j => fl.length - j.1) (by simp) _ (fun ⟨k, hk⟩ => ?_) ⟨0, Nat.zero_le _⟩
  refine step_at (tsS cf po c beat told fl h x z zo R [(8, .v (iv (k : Nat)))]) rfl ?_ ?_ (by show 1 ≤ 3; decide)
  exact fun go out => [.sp (decide ((k : Int) < (fl.length : Int)))
    (fun d =>
      have hk : k < fl.length := by simpa using d
      [.b _ _ d, .so _ fl[k]? (fun hx => [.no (by simp at hx; omega)]) fun w hw => [oJx inE 5 zo.2.1 fl.length zo.2.2 hk rfl, oJd inE 5 zo.2.1 fl.length zo.2.2 hw rfl, oJx inE 3 z.2.1 fl.length z.2.2 hk rfl, oJd inE 3 z.2.1 fl.length z.2.2 hw rfl, .b (!decide (w = w)) false (by simp), .r _ _ (wrap_next hk (by omega)), go ⟨k + 1, hk⟩ (by show fl.length - (k + 1) < fl.length - k; omega) _ rfl]])
    (fun d => [.b _ _ d, out () (tsS cf po c beat told fl h x z zo R []) rfl])]
  intro _ _; kernel_rfl
end
theorem tw_same (cf : Cf) (po : List Po) (c : Nat → Int) (beat : Int) (told : List Td) (fl : List Int) (h x : H4) (z zo : H2) (hp : po.length ≤ 1000) (ht : told.length ≤ 2000) (hf : fl.length ≤ 2000) :
    Meth Tryd.prog 11 [stH (bare cf po c beat) x, otV told fl zo] (acA ⟨bare cf po c beat, told, fl⟩ (hpN (bare cf po c beat) h) z) 47 (tsA po told fl h x z zo) Unit (fun _ => .bool true) (fun _ => acA ⟨bare cf po c beat, [], []⟩ (hpN (bare cf po c beat) h) ((none, 0), (none, 0)))
      (fun _ => [bdO 73 21 poC (.slice x.1.1 po.length x.1.2) po, bdO 73 21 poC (.slice h.1.1 po.length h.1.2) po, bdO 89 17 tdC (.slice none 0 0) [], bdO 3 1 inC (.slice none 0 0) [], bdO 89 17 tdC (.slice zo.1.1 told.length zo.1.2) told, bdO 3 1 inC (.slice zo.2.1 fl.length zo.2.2) fl]) := by
  have hS := same_fun cf po c beat x h hp
  have h1 := fun R => ts_told cf po c beat told fl h x z zo R ht
  have h2 := fun R => ts_fl cf po c beat told fl h x z zo R hf
  exact ev_meth (fun R fin => [oU true hS 0, No, .b (!decide ((told.length : Int) = (told.length : Int))) false (by simp), .b (!decide ((fl.length : Int) = (fl.length : Int))) false (by simp), .l _ _ _ _ _ _ (h1 R) fun _ => [.l _ _ _ _ _ _ (h2 R) fun _ => [.a 2 [bdO 89 17 tdC (.slice z.1.1 told.length z.1.2) told, bdO 3 1 inC (.slice z.2.1 fl.length z.2.2) fl] [bdO 89 17 tdC (.slice none 0 0) [], bdO 3 1 inC (.slice none 0 0) []] (fun w0 F R w K => nil_own 89 17 tdC _ w0 F R w (nil_own 3 1 inC [] w0 F R w (drop_one (drop_one K)))), fin ()]]]) (fun R β w => by kernel_rfl)
end
section
/- Layer 18's law: Made. -/
open Go.RowKit
open Ev
set_option maxRecDepth 100000
structure Sg where
 id : Nat
 n0 : Nat
 n1 : Nat
 n2 : Nat
def Sg.ok (x : Sg) : Prop := x.id < 256 ∧ x.n0 < 256 ∧ x.n1 < 256 ∧ x.n2 < 256
def sgA (x : Sg) (v : Value) : Array Value := #[.int .u8 (x.id : Nat), .int .u8 (x.n0 : Nat), .int .u8 (x.n1 : Nat), .int .u8 (x.n2 : Nat), v]
structure Pg where
 c : Nat
 p : Nat
 e : Bool
 ad : Bool
 up : Bool
def Pg.ok (y : Pg) : Prop := y.c < 256 ∧ y.p < 256
def pgA (y : Pg) : Array Value := #[.int .u8 (y.c : Nat), .int .u8 (y.p : Nat), .bool y.e, .bool y.ad, .bool y.up]
def pgC (y : Pg) : List Value := (pgA y).toList
structure Ac where
 wh : Nat
 po : Nat
 ki : Nat
 ro : Nat
 f0 : Bool
 f1 : Bool
 f2 : Bool
 f3 : Bool
 v0 : Nat
 v1 : Nat
 v2 : Nat
 v3 : Nat
 age : Nat
 own : Bool
def Ac.ok (y : Ac) : Prop := y.wh < 256 ∧ y.po < 256 ∧ y.ki < 256 ∧ y.ro < 256 ∧ y.v0 < 256 ∧ y.v1 < 256 ∧ y.v2 < 256 ∧ y.v3 < 256 ∧ y.age < 256
def aqA (y : Ac) : Array Value := #[.int .u8 (y.wh : Nat), .int .u8 (y.po : Nat), .int .u8 (y.ki : Nat), .int .u8 (y.ro : Nat), .bool y.f0, .bool y.f1, .bool y.f2, .bool y.f3, .int .u8 (y.v0 : Nat), .int .u8 (y.v1 : Nat), .int .u8 (y.v2 : Nat), .int .u8 (y.v3 : Nat), .int .u8 (y.age : Nat), .bool y.own]
def aqC (y : Ac) : List Value := (aqA y).toList
abbrev nilPg : Array Value := #[.int .u8 0, .int .u8 0, .bool false, .bool false, .bool false]
abbrev nilAc : Array Value := #[.int .u8 0, .int .u8 0, .int .u8 0, .int .u8 0, .bool false, .bool false, .bool false, .bool false, .int .u8 0, .int .u8 0, .int .u8 0, .int .u8 0, .int .u8 0, .bool false]
theorem sizeSg : (Tryd.prog.info? 25).map (·.size) = some 5 := by kernel_rfl
theorem sizePg : (Tryd.prog.info? 84).map (·.size) = some 5 := by kernel_rfl
theorem sizeAc : (Tryd.prog.info? 56).map (·.size) = some 14 := by kernel_rfl
theorem zPg : ∀ W : World, (zeroValue 84).run Tryd.prog W = .ok (.agg nilPg) W := fun W => Tryd.zeroValue84 W
set_option maxRecDepth 100000 in
theorem zAc : ∀ W : World, (zeroValue 56).run Tryd.prog W = .ok (.agg nilAc) W := fun W => Tryd.zeroValue56 W
def madeP (y : Pg) : Po := ⟨1, 0, false, ((1 + y.c % 4 : Nat) : Int), ((y.p % 3 : Nat) : Int), y.e, y.ad, y.up, false, false, 0, 0, 0, 0, 0, 0, 0, 0, 0, 0, 0⟩
def madeCf (x : Sg) : Cf := ⟨((1 + x.id % 8 : Nat) : Int), ((6 + x.n0 % 6 : Nat) : Int), ((1 + x.n1 % 3 : Nat) : Int), ((1 + x.n2 % 5 : Nat) : Int), 8, 20⟩
def madeS (x : Sg) (l : List Pg) : Go.Proofs.YtebnpblincgjlaaDoor.St := ⟨madeCf x, (l.take 6).map madeP, [], [], [], fun _ => 0, 0⟩
theorem wrS {k : IntKind} {x : Int} (h0 : 0 ≤ x) (h1 : x < 128) : k.wrap x = x := by
 cases k <;> simp [IntKind.wrap, IntKind.bits, IntKind.signed] <;> omega
theorem tmN {x : Nat} {m r : Int} (h : (x : Int) % m = r) : (x : Int).tmod m = r := by
 rw [Int.tmod_eq_emod_of_nonneg (Int.natCast_nonneg _)]
 exact h
theorem pg_len (x : Pg) : (pgC x).length = 5 := rfl
theorem pg_one (x : Pg) : ∀ u ∈ pgC x, u.oneCell' = true := by
  intro u hu
  simp [pgC, pgA] at hu
  rcases hu with rfl | rfl | rfl | rfl | rfl <;> rfl
theorem pg_info : ∃ i z b, Tryd.prog.info? 84 = some i ∧ i.zero = some z ∧ i.size = 5 ∧ i.bytes = b ∧ z.cells.size = 5 ∧ b ≤ 1000 := ⟨_, _, _, rfl, rfl, rfl, rfl, rfl, by decide⟩
theorem pgT : ElT Tryd.prog 23 84 5 pgC := ⟨by kernel_rfl, pg_info, by decide, pg_len, pg_one⟩
theorem pgE : ElV Tryd.prog 23 84 5 pgC (fun x => .agg (pgA x)) := ⟨pgT, by kernel_rfl, fun x => by simp [Value.cells, pgC], .inl ⟨by kernel_rfl, fun x => by simp [pgC]⟩⟩
theorem pg_row : rowT Tryd.prog 84 = true := by kernel_rfl
section
variable (X : Bd) (a : Option Addr) (n m : Nat) (x : Sg) (l : List Pg) (R : Bd)
def mdS (e : List (Nat × SV)) (s : Go.Proofs.YtebnpblincgjlaaDoor.St) (y : Hd) : Ev.St := ⟨sp 70 ([(1, .p 0 0), (2, .p 1 0), (3, .p 2 0)] ++ e), [(sgA x (.slice a n m), 25), (zer25, 40), ((stH s (y, (none, 0), (none, 0), (none, 0))).cells, 40)], [bdO 73 21 poC (.slice y.1 s.po.length y.2) s.po, X, R]⟩
end
theorem remC (k : IntKind) (x m : Nat) (hm : 0 < m) (hc : m ≤ 100) : Value.int k (k.wrap ((x : Int).tmod (m : Nat))) = .int k ((x % m : Nat) : Int) := by
  have h : (x : Int).tmod (m : Nat) = ((x % m : Nat) : Int) := by rw [Int.tmod_eq_emod_of_nonneg (Int.natCast_nonneg _)]; rfl
  have := Nat.mod_lt x hm
  rw [h, wrS (by omega) (by omega)]
theorem remS (k : IntKind) (x c m : Nat) (hm : 0 < m) (hc : c + m ≤ 100) : Value.int k (k.wrap ((c : Nat) + k.wrap ((x : Int).tmod (m : Nat)))) = .int k ((c + x % m : Nat) : Int) := by
  have h : (x : Int).tmod (m : Nat) = ((x % m : Nat) : Int) := by rw [Int.tmod_eq_emod_of_nonneg (Int.natCast_nonneg _)]; rfl
  have := Nat.mod_lt x hm
  rw [h, wrS (k := k) (x := ((x % m : Nat) : Int)) (by omega) (by omega), show ((c : Nat) : Int) + ((x % m : Nat) : Int) = ((c + x % m : Nat) : Int) by omega, wrS (by omega) (by omega)]
def mdP (x : Sg) (P : List Po) : Go.Proofs.YtebnpblincgjlaaDoor.St := ⟨madeCf x, P, [], [], [], fun _ => 0, 0⟩
theorem md_loop (X : Bd) (a : Option Addr) (n m : Nat) (x : Sg) (l : List Pg) (R : Bd) (hX : Reads X a 5 pgC l) (hl : l.length = n) : TY Tryd.prog 0 (.loop (loopN Tryd.prog 7 0)) (mdS X a n m x R [(4, .v (iv (0 : Nat)))] (mdP x []) (none, 0)) Hd (.exit 0) (fun y => mdS X a n m x R [] (madeS x l) y) := by
  refine T_loop (I := {k : Nat // k ≤ n ∧ k ≤ 6} × Hd) (fun j => mdS X a n m x R [(4, .v (iv (j.1.1 : Nat)))] (mdP x ((l.take j.1.1).map madeP)) j.2) (fun j => n - j.1.1) (by simp) _ (fun ⟨⟨k, hk, hk6⟩, y⟩ => ?_) (⟨0, Nat.zero_le _, Nat.zero_le _⟩, (none, 0))
  have hP : ((l.take k).map madeP).length = k := by rw [List.length_map, List.length_take]; omega
  have hE : (k = n ∨ k = 6) → (l.take k).map madeP = (l.take 6).map madeP := fun q => by
    rcases q with rfl | rfl
    · rw [List.take_of_length_le (by omega), List.take_of_length_le (by omega)]
    · rfl
  have hs : ∀ z, l[k]? = some z → (l.take (k + 1)).map madeP = (l.take k).map madeP ++ [madeP z] := fun z hz => by
    rw [List.take_add_one, hz, List.map_append]
    rfl
  obtain ⟨P, hPe⟩ : ∃ P, (l.take k).map madeP = P := ⟨_, rfl⟩
  rw [hPe] at hP hE hs
  refine step_at (mdS X a n m x R [(4, .v (iv (k : Nat)))] (mdP x P) y) (by rw [← hPe]) ?_ ?_ (Nat.zero_le _)
  exact fun go out => [.sp (decide ((k : Int) < (n : Int)))
    (fun d => [.sp (decide ((k : Int) < 6))
      (fun d6 =>
        have h : k < n := by simpa using d
        have h6 : k < 6 := by have := of_decide_eq_true d6; omega
        [.b _ _ d, .b _ _ d6, .so _ l[k]? (fun hx => [.no (by simp at hx; omega)]) fun z hz => [oXx pgE 1 n m hX h hl, oXd pgE (fun _ => rfl) pg_row 1 hX hz, .k, .k, .r _ _ (remS .u32 z.c 1 4 (by decide) (by decide)), .k, .r _ _ (remC .i64 z.p 3 (by decide) (by decide)),
          oAp poE 32 0 4 #[false, false] (.slice y.1 P.length y.2) P [madeP z] (P ++ [madeP z]).length (by simp) (by simp; omega) fun y2 => [.r _ _ (wrap_next h6 (by omega)), go (⟨k + 1, h, h6⟩, y2) (by show n - (k + 1) < n - k; omega) (mdS X a n m x R [(4, .v (iv ((k + 1 : Nat) : Int)))] (mdP x (P ++ [madeP z])) y2) (by rw [← hs z hz])]]])
      (fun d6 => [.b _ _ d, .b _ _ d6, out y (mdS X a n m x R [] (mdP x P) y) (by rw [hE (.inr (by have := of_decide_eq_false d6; omega))]; rfl)])])
    (fun d => [.b _ _ d, No, out y (mdS X a n m x R [] (mdP x P) y) (by rw [hE (.inl (by simp at d; omega))]; rfl)])]
  intro _ _; kernel_rfl
theorem made_fun (X : Bd) (a : Option Addr) (n m : Nat) (x : Sg) (l : List Pg) (hX : Reads X a 5 pgC l) (hl : l.length = n) :
    Fun Tryd.prog 7 [.agg (sgA x (.slice a n m))] [X] Hd (fun y => stH (madeS x l) (y, (none, 0), (none, 0), (none, 0))) (fun y => [bdO 73 21 poC (.slice y.1 (madeS x l).po.length y.2) (madeS x l).po, X]) := by
  have hL := fun R => md_loop X a n m x l R hX hl
  exact ev_fun (fun R fin => [.k, .k, .r _ _ (remS .u64 x.id 1 8 (by decide) (by decide)), .k, .k, .r _ _ (remS .i64 x.n0 6 6 (by decide) (by decide)), .k, .k, .r _ _ (remS .i64 x.n1 1 3 (by decide) (by decide)), .k, .k, .r _ _ (remS .i64 x.n2 1 5 (by decide) (by decide)), .a 0 [] _ (nil_own 73 21 poC []), .l _ _ _ _ _ _ (hL R) fun y => [fin y]]) (fun R β w => by kernel_rfl)
end
section
/- Layer 18's law: pduOf. -/
open Go.RowKit
open Ev
set_option maxRecDepth 100000
def pduQ (y : Ac) : Pd := if y.ki % 4 = 3 then ⟨128, false, false, false, false, false, false, 0, 0, 0, 0, 0, 0, 0, 0, 0⟩
 else if y.ki % 4 = 2 then ⟨0, y.f0, false, false, false, false, false, 0, 0, 0, 0, 0, ((y.age % 14 : Nat) : Int), 0, 0, 0⟩
 else ⟨2, y.f0, y.f1, false, false, y.f2, false, ((y.ro % 4 : Nat) : Int), 0, 0, 0, 0, ((y.age % 14 : Nat) : Int), 0, 0, 0⟩
def pduV (y : Ac) (s : Go.Proofs.YtebnpblincgjlaaDoor.St) (p : Int) : Vc := if y.ki % 4 = 3 then ⟨0, 0, 0, 0⟩
 else if y.own = true ∧ 1 ≤ p ∧ p ≤ (s.po.length : Int) then (match s.po[(p - 1).toNat]? with | some x => vecN x | none => ⟨0, 0, 0, 0⟩)
 else ⟨1 + y.v0 % 8, y.v1 % 5, 1 + y.v2 % 8, y.v3 % 4⟩
theorem pduV_ok {y : Ac} {s : Go.Proofs.YtebnpblincgjlaaDoor.St} {p : Int} (hok : ∀ (k : Nat) (x : Po), s.po[k]? = some x → okP x) : (pduV y s p).ok := by
 unfold pduV
 split
 ·
  exact ⟨by decide, by decide, by decide, by decide⟩
 ·
  split
  ·
   split
   ·
    rename_i x hx
    have h := hok _ x hx
    obtain ⟨⟨a1, a2⟩, ⟨b1, b2⟩, ⟨c1, c2⟩, ⟨d1, d2⟩, -⟩ := h
    refine ⟨?_, ?_, ?_, ?_⟩
    ·
     show x.p13.toNat < _; omega
    ·
     show x.p14.toNat < _; omega
    ·
     show x.p15.toNat < _; omega
    ·
     show x.p16.toNat < _; omega
   ·
    exact ⟨by decide, by decide, by decide, by decide⟩
  ·
   refine ⟨?_, ?_, ?_, ?_⟩
   ·
    show 1 + y.v0 % 8 < _; omega
   ·
    show y.v1 % 5 < _; omega
   ·
    show 1 + y.v2 % 8 < _; omega
   ·
    show y.v3 % 4 < _; omega
theorem made_ok (x : Sg) (l : List Pg) (k : Nat) (y : Po) (h : (madeS x l).po[k]? = some y) : okP y := by
 have h : ((l.take 6).map madeP)[k]? = some y := h
 rw [List.getElem?_map] at h
 cases c : (l.take 6)[k]? with
 | none => rw [c] at h; cases h
 | some z =>
  rw [c] at h
  have h : some (madeP z) = some y := h
  injection h with h
  rw [← h]
  refine ⟨⟨Int.le_refl _, by show (0 : Int) < _; decide⟩, ⟨Int.le_refl _, by show (0 : Int) < _; decide⟩, ⟨Int.le_refl _, by show (0 : Int) < _; decide⟩, ⟨Int.le_refl _, by show (0 : Int) < _; decide⟩, ?_⟩
  show 0 ≤ ((1 + z.c % 4 : Nat) : Int) ∧ ((1 + z.c % 4 : Nat) : Int) < _
  omega
theorem made_few (x : Sg) (l : List Pg) : (madeS x l).po.length ≤ 6 := by
 show ((l.take 6).map madeP).length ≤ 6
 rw [List.length_map, List.length_take]
 omega
theorem made_id (x : Sg) (l : List Pg) : 0 ≤ (madeS x l).cf.p0 ∧ (madeS x l).cf.p0 < 18446744073709551616 := by
 show 0 ≤ ((1 + x.id % 8 : Nat) : Int) ∧ ((1 + x.id % 8 : Nat) : Int) < _
 omega

theorem Ev.Fun_own {P : Program} {f : FuncId} {args : List Value} {A : Bds} {Y : Type} {v : Y → Value} {A' : Y → Bds} {α : Type} {e : TypeId} {size : Nat} {enc : α → List Value} {a : Option Addr} {n m k : Nat} {l : List α} (p : Nat) (hp : A[p]? = some (bdO e size enc (.slice a n m) l)) (hk : k < l.length)
    (h2 : (∃ g, a = some ⟨g, 0, none⟩) → Fun P f args A Y v A') : Fun P f args A Y v A' :=
  fun w0 F R w K => h2 (own_ptr (w := w) (e := e) (size := size) (enc := enc) (n := n) (m := m) ((sepL_p.1 K.a.1).1 _ (List.mem_of_getElem? hp)) hk) w0 F R w K
theorem rem8 (x m : Nat) : Value.int .u8 ((x : Int).tmod (m : Nat)) = .int .u8 ((x % m : Nat) : Int) := by
  rw [show (x : Int).tmod (m : Nat) = ((x % m : Nat) : Int) by rw [Int.tmod_eq_emod_of_nonneg (Int.natCast_nonneg _)]; rfl]
theorem rem8c {x m c : Nat} (h : x % m = c) : Value.int .u8 ((x : Int).tmod (m : Nat)) = .int .u8 (c : Nat) := by rw [rem8, h]
def pduA (s : Go.Proofs.YtebnpblincgjlaaDoor.St) (x : H4) : Bds := [bdO 73 21 poC (.slice x.1.1 s.po.length x.1.2) s.po]
/-- The hints of a PDU's numbers. -/
abbrev nums (y : Ac) : List (Ora Tryd.prog) := [.k, .k, .r _ _ (remS .u64 y.v0 1 8 (by decide) (by decide)), .k, .r _ _ (remC .u32 y.v1 5 (by decide) (by decide)), .k, .k, .r _ _ (remS .u64 y.v2 1 8 (by decide) (by decide)), .k, .r _ _ (remC .u16 y.v3 4 (by decide) (by decide)), .k, .r _ _ (remC .u16 y.age 14 (by decide) (by decide))]
theorem pdu_fun (y : Ac) (s : Go.Proofs.YtebnpblincgjlaaDoor.St) (x : H4) (p : Int) (hn : s.po.length ≤ 16) (hok : ∀ (k : Nat) (z : Po), s.po[k]? = some z → okP z) : Fun Tryd.prog 16 [.agg (aqA y), stH s x, iv p] (pduA s x) Unit (fun _ => pdV (pdU (pduQ y) (pduV y s p))) (fun _ => pduA s x) := by
  have h4 : y.ki % 4 < 4 := Nat.mod_lt _ (by decide)
  by_cases k3 : y.ki % 4 = 3
  · have eQ : pduQ y = ⟨128, false, false, false, false, false, false, 0, 0, 0, 0, 0, 0, 0, 0, 0⟩ := by unfold pduQ; rw [if_pos k3]
    have eV : pduV y s p = ⟨0, 0, 0, 0⟩ := by unfold pduV; rw [if_pos k3]
    rw [eQ, eV]
    exact ev_fun (fun R fin => [.r _ _ (rem8c (m := 4) k3), Yes, fin ()]) (fun R β w => by kernel_rfl)
  by_cases ho : y.own = true ∧ 1 ≤ p ∧ p ≤ (s.po.length : Int)
  · obtain ⟨o1, o2, o3⟩ := ho
    obtain ⟨i, rfl⟩ : ∃ i : Nat, p = (i : Int) + 1 := ⟨(p - 1).toNat, by omega⟩
    have hi : i < s.po.length := by omega
    obtain ⟨z, hz⟩ : ∃ z, s.po[i]? = some z := ⟨_, List.getElem?_eq_getElem hi⟩
    have hz2 : s.po[i]? = some (poU z (vecN z)) := by rw [hz]; exact congrArg some (okP_poU (hok i z hz))
    have eV : pduV y s ((i : Int) + 1) = vecN z := by
      unfold pduV
      rw [if_neg k3, if_pos ⟨o1, o2, o3⟩, show ((i : Int) + 1 - 1).toNat = i by omega, hz]
    rw [eV]
    obtain ⟨u, hu⟩ : ∃ u, vecN z = u := ⟨_, rfl⟩
    rw [hu] at hz2 ⊢
    refine Fun_own (k := i) 0 rfl hi fun ⟨g, hg⟩ => ?_
    obtain ⟨⟨xa, xm⟩, x2⟩ := x
    have hg : xa = some ⟨g, 0, none⟩ := hg
    subst hg
    have b2 : decide ((i : Int) + 1 ≥ 1) = true := by simp; omega
    have b3 : decide ((i : Int) + 1 ≤ (s.po.length : Int)) = true := by simp; omega
    let tl (fin : Unit → Ora Tryd.prog) : List (Ora Tryd.prog) := [.b _ _ o1, .b _ _ b2, .b _ _ b3, .r _ _ (wrap_pre (i := i) (by omega)), oIx poE g s.po.length xm hi, oLr poE 0 g s.po.length xm 71 13 (vcL (poU z u)) hz2 rfl vc_row vc_size (by show 13 + 4 ≤ 21; decide) (vcL_at _), fin ()]
    by_cases k2 : y.ki % 4 = 2
    · have eQ : pduQ y = ⟨0, y.f0, false, false, false, false, false, 0, 0, 0, 0, 0, ((y.age % 14 : Nat) : Int), 0, 0, 0⟩ := by unfold pduQ; rw [if_neg k3, if_pos k2]
      rw [eQ]
      exact ev_fun (fun R fin => [.r _ _ (rem8c (m := 4) k2), No] ++ nums y ++ [No] ++ tl fin) (fun R β w => by kernel_rfl)
    · have eQ : pduQ y = ⟨2, y.f0, y.f1, false, false, y.f2, false, ((y.ro % 4 : Nat) : Int), 0, 0, 0, 0, ((y.age % 14 : Nat) : Int), 0, 0, 0⟩ := by unfold pduQ; rw [if_neg k3, if_neg k2]
      rw [eQ]
      have : y.ki % 4 = 0 ∨ y.ki % 4 = 1 := by omega
      rcases this with k0 | k0 <;> exact ev_fun (fun R fin => [.r _ _ (rem8c (m := 4) k0), No] ++ nums y ++ [Yes, .r _ _ (rem8 y.ro 4)] ++ tl fin) (fun R β w => by kernel_rfl)
  · have eV : pduV y s p = ⟨1 + y.v0 % 8, y.v1 % 5, 1 + y.v2 % 8, y.v3 % 4⟩ := by unfold pduV; rw [if_neg k3, if_neg ho]
    rw [eV]
    let tl (fin : Unit → Ora Tryd.prog) : List (Ora Tryd.prog) := [.sp y.own
      (fun o1 => [.sp (decide (p ≥ 1))
        (fun o2 => [.b _ _ o1, .b _ _ o2, .b (decide (p ≤ (s.po.length : Int))) false (by
          rw [decide_eq_false_iff_not]
          exact fun q => ho ⟨o1, of_decide_eq_true o2, q⟩), fin ()])
        (fun o2 => [.b _ _ o1, .b _ _ o2, No, fin ()])])
      (fun o1 => [.b _ _ o1, No, No, fin ()])]
    by_cases k2 : y.ki % 4 = 2
    · have eQ : pduQ y = ⟨0, y.f0, false, false, false, false, false, 0, 0, 0, 0, 0, ((y.age % 14 : Nat) : Int), 0, 0, 0⟩ := by unfold pduQ; rw [if_neg k3, if_pos k2]
      rw [eQ]
      exact ev_fun (fun R fin => [.r _ _ (rem8c (m := 4) k2), No] ++ nums y ++ [No] ++ tl fin) (fun R β w => by kernel_rfl)
    · have eQ : pduQ y = ⟨2, y.f0, y.f1, false, false, y.f2, false, ((y.ro % 4 : Nat) : Int), 0, 0, 0, 0, ((y.age % 14 : Nat) : Int), 0, 0, 0⟩ := by unfold pduQ; rw [if_neg k3, if_neg k2]
      rw [eQ]
      have : y.ki % 4 = 0 ∨ y.ki % 4 = 1 := by omega
      rcases this with k0 | k0 <;> exact ev_fun (fun R fin => [.r _ _ (rem8c (m := 4) k0), No] ++ nums y ++ [Yes, .r _ _ (rem8 y.ro 4)] ++ tl fin) (fun R β w => by kernel_rfl)
end
end Go.Proofs.YtebnpblincgjlaaDoor
section
/- Layer 18's law: speaks. -/
namespace Go.Proofs.YtebnpblincgjlaaDoor
open Go.RowKit
open Ev
set_option maxRecDepth 100000
namespace Ev
section
variable {α : Type} {P : Program} {t e : TypeId} {size : Nat} {enc : α → List Value} {val : α → Value}
/-- A list's header, as it is known by then. -/
def oHx (E : ElV P t e size enc val) {a : Option Addr} {g : Nat} (n m : Nat) {k : Nat} (ha : a = some ⟨g, 0, none⟩) (hk : k < n) : Ora P :=
  .x true (.s fun _ => do pure (.value (← Instr.indexAt t (.slice a n m) (.int .i64 (k : Nat))))) 0 [] [] (.pointer (some ⟨g, k * size, none⟩))
    (fun w0 F R β w K => by
      subst ha
      show stepS P _ _ w
      unfold stepS
      simp only [Sem.run_bind, Sem.run_pure, Result.andThen_ok, run_ix E n m hk w]
      exact ⟨trivial, K⟩)
def oHf (E : ElV P t e size enc val) (p : Nat) {a : Option Addr} {g : Nat} (n m : Nat) {l : List α} {k : Nat} (ty : TypeId) (j : Nat) (u : Value) {x : α} (ha : a = some ⟨g, 0, none⟩) (hx : l[k]? = some x) (hn : l.length = n) (hj : j < size) (he : (enc x)[j]? = some u) (hu : plainT (P.underlying ty) = true) : Ora P :=
  .x true (.s fun _ => do pure (.value (← Instr.loadAt ty (.pointer (some ⟨g, k * size + j, none⟩))))) p [bdO e size enc (.slice a n m) l] [bdO e size enc (.slice a n m) l] u
    (fun w0 F R β w K => by
      subst hn
      subst ha
      show stepS P _ _ w
      unfold stepS
      have h : Own w 0 e size enc (.slice (some ⟨g, 0, none⟩) l.length m) l := K.one
      have hc := h.at E.len k j x hx hj
      rw [he] at hc
      simp only [Sem.run_bind, Sem.run_pure, Result.andThen_ok, run_loadAt_cell hu hc]
      exact ⟨trivial, K⟩)
/-- A list that isn't empty tells its header. -/
def oUs {a : Option Addr} {n m : Nat} {l : List α} (p : Nat) (e : TypeId) (size : Nat) (enc : α → List Value) {k : Nat} (hk : k < l.length) (f : (g : Nat) → a = some ⟨g, 0, none⟩ → List (Ora P)) : Ora P :=
  .us p [bdO e size enc (.slice a n m) l] Nat (fun g => a = some ⟨g, 0, none⟩) (fun w h => own_ptr h.1 hk) f
theorem drop_all : ∀ (A : Bds) {w0 w : World} {F : Fm} {R : Bd}, Kf w0 F ((sepL A).sep R) w → Kf w0 F ((sepL []).sep R) w
  | [], _, _, _, _, K => K
  | _ :: A, _, _, _, _, K => drop_all A (drop_one K)
/-- What isn't wanted any more. -/
def oDr (p : Nat) (A : Bds) : Ora P := .a p A [] (fun _ _ _ _ K => drop_all A K)
end
end Ev
def opV (k : Nat) : Int := match k with | 0 => 0 | _ => 1
section
variable (a : Option Addr) (m : Nat) (cf : Cf) (vl : List Vr) (st : List Sr) (fd : List Fr) (c : Nat → Int) (beat : Int) (v2 v3 v4 : Value) (x0 x1 : Po) (R : Bd)
def opS (k : Nat) : Ev.St := ⟨sp 30 [(1, .v (iv 0)), (5, .v (.int .u32 (opV k))), (9, .v (.slice a 2 m)), (10, .v (iv 2)), (11, .v (iv (k : Nat)))], [((stV ⟨cf, [x0, x1], vl, st, fd, c, beat⟩ (.slice a 2 m) v2 v3 v4).cells, 40)], [bdO 73 21 poC (.slice a 2 m) [x0, x1], R]⟩
theorem op_loop (h0 : onP x0 = true) (hs : decide (x0.p11 ≥ 0) = true) (h1 : onP x1 = false) : TY Tryd.prog 0 (.loop (loopN Tryd.prog 23 0)) (opS a m cf vl st fd c beat v2 v3 v4 x0 x1 R 0) Unit (.exit 0) (fun _ => opS a m cf vl st fd c beat v2 v3 v4 x0 x1 R 2) := by
  refine T_loop (I := {k : Nat // k ≤ 2}) (fun j => opS a m cf vl st fd c beat v2 v3 v4 x0 x1 R j.1) (fun j => 2 - j.1) (by simp) _ (fun ⟨k, hk⟩ => ?_) ⟨0, by decide⟩
  have : k = 0 ∨ k = 1 ∨ k = 2 := by omega
  rcases this with rfl | rfl | rfl
  · refine step_at (opS a m cf vl st fd c beat v2 v3 v4 x0 x1 R 0) rfl ?_ ?_ (Nat.zero_le _)
    exact fun go out => [Yes, oJx poE 0 a 2 m (k := 0) (l := [x0, x1]) (by decide) rfl, oJd poE 0 a 2 m (k := 0) (l := [x0, x1]) (x := x0) rfl rfl, .c _ _ _ (on_any x0), .b _ _ h0, .b _ _ hs, go ⟨1, by decide⟩ (by show 2 - 1 < 2 - 0; decide) (opS a m cf vl st fd c beat v2 v3 v4 x0 x1 R 1) rfl]
    intro _ _; kernel_rfl
  · refine step_at (opS a m cf vl st fd c beat v2 v3 v4 x0 x1 R 1) rfl ?_ ?_ (Nat.zero_le _)
    exact fun go out => [Yes, oJx poE 0 a 2 m (k := 1) (l := [x0, x1]) (by decide) rfl, oJd poE 0 a 2 m (k := 1) (l := [x0, x1]) (x := x1) rfl rfl, .c _ _ _ (on_any x1), .b _ _ h1, No, go ⟨2, by decide⟩ (by show 2 - 2 < 2 - 1; decide) (opS a m cf vl st fd c beat v2 v3 v4 x0 x1 R 2) rfl]
    intro _ _; kernel_rfl
  · refine step_at (opS a m cf vl st fd c beat v2 v3 v4 x0 x1 R 2) rfl ?_ ?_ (Nat.zero_le _)
    exact fun go out => [No, out () _ rfl]
    intro _ _; kernel_rfl
end
theorem open_two (cf : Cf) (x0 x1 : Po) (vl : List Vr) (st : List Sr) (fd : List Fr) (c : Nat → Int) (beat : Int) (v : Value) (a : Option Addr) (m : Nat) (v2 v3 v4 : Value) (h0 : onP x0 = true) (hs : decide (x0.p11 ≥ 0) = true) (h1 : onP x1 = false) :
    Fun Tryd.prog 23 [stV ⟨cf, [x0, x1], vl, st, fd, c, beat⟩ (.slice a 2 m) v2 v3 v4, iv 0] [bdO 73 21 poC (.slice a 2 m) [x0, x1]] Unit (fun _ => .int .u32 1) (fun _ => [bdO 73 21 poC (.slice a 2 m) [x0, x1]]) := by
  have hL := fun R => op_loop a m cf vl st fd c beat v2 v3 v4 x0 x1 R h0 hs h1
  exact ev_fun (fun R fin => [.l _ _ _ _ _ _ (hL R) fun _ => [fin ()]]) (fun R β w => by kernel_rfl)
theorem two_pg (x y : Pg) : ∀ W : World, (do pure (.value (← Instr.buildSlice 23 2 #[(0, .agg (pgA x)), (1, .agg (pgA y))])) : Sem Next).run Tryd.prog W = .ok (.value (.slice (some ⟨W.heap.size, 0, none⟩) 2 2)) (W.alloc (.cells (cellsL pgC [x, y]).toArray 84)) := fun W => by kernel_rfl
def sp0 : Go.Proofs.YtebnpblincgjlaaDoor.St := madeS ⟨3, 0, 0, 0⟩ [⟨0, 0, false, true, true⟩, ⟨0, 0, false, true, false⟩]
theorem sp_facts : (startM sp0).s.po.length = 2 ∧ ((startM sp0).told.map (fun d => (d.p0, d.p9, d.p3))) = [(1, 4, true)] ∧ ((startM sp0).s.po.map (fun x => (x.p10, onP x, decide (x.p11 ≥ 0)))) = [(4, true, true), (0, false, true)] := by decide
end Go.Proofs.YtebnpblincgjlaaDoor
end
namespace Go.Proofs.YtebnpblincgjlaaDoor
section
/- Layer 18's law: speaks, whole. -/
open Go.RowKit
open Ev
set_option maxRecDepth 100000
theorem sp_shape : ∃ cf x0 x1 vl st fd c beat d fl, startM sp0 = ⟨⟨cf, [x0, x1], vl, st, fd, c, beat⟩, [d], fl⟩ ∧ x0.p10 = 4 ∧ x1.p10 = 0 ∧ d.p0 = 1 ∧ d.p9 = 4 ∧ d.p3 = true ∧ onP x0 = true ∧ onP x1 = false ∧ decide (x0.p11 ≥ 0) = true := by
  obtain ⟨h1, h2, h3⟩ := sp_facts
  generalize startM sp0 = T at h1 h2 h3
  obtain ⟨⟨cf, po, vl, st, fd, c, beat⟩, told, fl⟩ := T
  dsimp only at h1 h2 h3
  rcases po with _ | ⟨x0, _ | ⟨x1, _ | ⟨x2, po⟩⟩⟩
  · cases h1
  · cases h1
  · rcases told with _ | ⟨d, _ | ⟨d2, told⟩⟩
    · cases h2
    · simp only [List.map_cons, List.map_nil, List.cons.injEq, Prod.mk.injEq, and_true] at h2 h3
      exact ⟨cf, x0, x1, vl, st, fd, c, beat, d, fl, rfl, h3.1.1, h3.2.1, h2.1, h2.2.1, h2.2.2, h3.1.2.1, h3.2.2.1, h3.1.2.2⟩
    · simp at h2
  · simp at h1
abbrev spx (y : Hd) : H4 := (y, (none, 0), (none, 0), (none, 0))
theorem nil3_own (A : Bds) : ∀ w0 F R w, Kf w0 F ((sepL A).sep R) w → Kf w0 F ((sepL (bdO 98 3 vrC (.slice none 0 0) [] :: bdO 105 8 srC (.slice none 0 0) [] :: bdO 108 9 frC (.slice none 0 0) [] :: A)).sep R) w := fun w0 F R w K =>
  nil_own 98 3 vrC _ w0 F R w (nil_own 105 8 srC _ w0 F R w (nil_own 108 9 frC _ w0 F R w K))
theorem speaks_fun : Fun Tryd.prog 6 [] [bdR] Unit (fun _ => .bool true) (fun _ => [bdR]) := by
  obtain ⟨cf, x0, x1, vl, st, fd, c, beat, d, fl, hT, e1, e2, e3, e4, e5, e6, e7, e8⟩ := sp_shape
  have hfew : Few sp0 := ⟨by decide, by decide, by decide, by decide⟩
  have hS := fun y : Hd => start_fun sp0 (spx y) hfew (by decide) (by decide) (map_ok (t := (⟨sp0, [], []⟩ : TS).setBeat 0) (fun k z hz => made_ok _ _ k z hz) (fun k x hx => switch_ok (switch_ok hx)) _)
  rw [hT] at hS
  have hM := fun b : Nat => made_fun (bdB b (cellsL pgC [⟨0, 0, false, true, true⟩, ⟨0, 0, false, true, false⟩]).toArray 84) (some ⟨b, 0, none⟩) 2 2 ⟨3, 0, 0, 0⟩ [⟨0, 0, false, true, true⟩, ⟨0, 0, false, true, false⟩] (reads_b (n := 2) _ pg_len rfl) rfl
  have hO := fun v a m v2 v3 v4 => open_two cf x0 x1 vl st fd c beat v a m v2 v3 v4 e6 e8 e7
  exact ev_fun (fun R fin => [oNs 23 84 2 _ _ (two_pg ⟨0, 0, false, true, true⟩ ⟨0, 0, false, true, false⟩) fun b => [oF (hM b) (none, 0) 0 fun y => [
    oPm [2, 0, 1] [bdO 73 21 poC (.slice y.1 sp0.po.length y.2) sp0.po, bdB b (cellsL pgC [⟨0, 0, false, true, true⟩, ⟨0, 0, false, true, false⟩]).toArray 84, bdR] 3 rfl (by decide), .a 2 [] _ (nil3_own []),
    oF (hS y) (((none, 0), (none, 0), (none, 0), (none, 0)), ((none, 0), (none, 0))) 0 fun z => [
    oUs (a := z.2.1.1) (n := 1) (m := z.2.1.2) (l := [d]) 1 89 17 tdC (k := 0) (by show 0 < 1; decide) fun g1 hg1 => [oUs (a := z.1.1.1) (n := 2) (m := z.1.1.2) (l := [x0, x1]) 0 73 21 poC (k := 0) (by show 0 < 2; decide) fun g0 hg0 => [
      Yes, oHx tdE 1 z.2.1.2 (k := 0) hg1 (by decide), oHf tdE 1 1 z.2.1.2 (l := [d]) (k := 0) 3 0 (iv d.p0) hg1 rfl rfl (by decide) rfl plain3, .b (decide (d.p0 = 1)) true (by simp [e3]),
      oHx tdE 1 z.2.1.2 (k := 0) hg1 (by decide), oHf tdE 1 1 z.2.1.2 (l := [d]) (k := 0) 29 9 (.int .u64 d.p9) hg1 rfl rfl (by decide) rfl plain29, .b (decide (d.p9 = 4)) true (by simp [e4]),
      oHx tdE 1 z.2.1.2 (k := 0) hg1 (by decide), oHf tdE 1 1 z.2.1.2 (l := [d]) (k := 0) 4 3 (.bool d.p3) hg1 rfl rfl (by decide) rfl plain4, .b _ _ e5, Yes,
      oHx poE 2 z.1.1.2 (k := 0) hg0 (by decide), oHf poE 0 2 z.1.1.2 (l := [x0, x1]) (k := 0) 3 10 (iv x0.p10) hg0 rfl rfl (by decide) rfl plain3, .b (decide (x0.p10 = 4)) true (by simp [e1]),
      oHx poE 2 z.1.1.2 (k := 1) hg0 (by decide), oHf poE 0 2 z.1.1.2 (l := [x0, x1]) (k := 1) 3 10 (iv x1.p10) hg0 rfl rfl (by decide) rfl plain3, .b (decide (x1.p10 = 0)) true (by simp [e2]),
      oU true (hO undef z.1.1.1 z.1.1.2 (.slice z.1.2.1.1 0 z.1.2.1.2) (.slice z.1.2.2.1.1 0 z.1.2.2.1.2) (.slice z.1.2.2.2.1 0 z.1.2.2.2.2)) 0,
      oDr 0 [bdO 73 21 poC (.slice z.1.1.1 2 z.1.1.2) [x0, x1], bdO 89 17 tdC (.slice z.2.1.1 1 z.2.1.2) [d], bdO 3 1 inC (.slice z.2.2.1 fl.length z.2.2.2) fl],
      oDr 1 ([bdO 98 3 vrC (.slice z.1.2.1.1 0 z.1.2.1.2) sp0.vl, bdO 105 8 srC (.slice z.1.2.2.1.1 0 z.1.2.2.1.2) sp0.st, bdO 108 9 frC (.slice z.1.2.2.2.1 0 z.1.2.2.2.2) sp0.fd] ++ stN sp0 (spx y) ++ [bdB b (cellsL pgC [⟨0, 0, false, true, true⟩, ⟨0, 0, false, true, false⟩]).toArray 84]),
      fin ()]]]]]]) (fun R β w => by kernel_rfl)
end
section
/- Layer 18's law: all that it calls, over lists of one length. -/
open Go.RowKit
open Ev
set_option maxRecDepth 100000
theorem tw_hear_no {t : TS} (p : Int) (q : Pd) (h0 : 0 ≤ p ∧ p ≤ 1000) (hn : t.s.po.length ≤ 1000) (hp : ∀ i x, p = (i : Nat) + 1 → t.s.po[i]? = some x → onP x = false) : Acts 47 18 [iv p, pdV q] t t := by
  intro c y hl
  obtain ⟨a, n, m, v2, v3, v4⟩ := c
  have hl : t.s.po.length = n := hl
  by_cases e : p = 0
  · subst e
    exact ev_acts (fun R fin => [.r _ (iv (-1)) rfl, Yes, Yes, Yes, fin y t rfl]) (fun R β w => by kernel_rfl)
  obtain ⟨i, rfl⟩ : ∃ i : Nat, p = (i : Int) + 1 := ⟨(p - 1).toNat, by omega⟩
  by_cases hi : i < n
  · obtain ⟨x, hx⟩ : ∃ x, t.s.po[i]? = some x := ⟨_, List.getElem?_eq_getElem (by omega)⟩
    have ho := hp i x rfl hx
    refine Meth_own (k := i) 0 rfl (by show i < t.s.po.length; omega) fun ⟨g, hg⟩ => ?_
    have hg : a = some ⟨g, 0, none⟩ := hg
    subst hg
    exact ev_acts (fun R fin => [.r _ _ (wrap_pre (i := i) (by omega)), .b (decide ((i : Int) < 0)) false (by simp), .b (decide ((i : Int) ≥ (n : Int))) false (by simp; omega), oIx poE g n m hi, oLf poE 0 g n m 4 7 (.bool x.p7) hx hl (by decide) rfl plain4, .sp x.p7
      (fun h7 => [.b _ _ h7, oIx poE g n m hi, oLf poE 0 g n m 4 6 (.bool x.p6) hx hl (by decide) rfl plain4, .b (!x.p6) true (by unfold onP at ho; rw [h7] at ho; simpa using ho), fin y t rfl])
      (fun h7 => [.b _ _ h7, Yes, fin y t rfl])]) (fun R β w => by kernel_rfl)
  · exact ev_acts (fun R fin => [.r _ _ (wrap_pre (i := i) (by omega)), .b (decide ((i : Int) < 0)) false (by simp), .b (decide ((i : Int) ≥ (n : Int))) true (by simp; omega), Yes, fin y t rfl]) (fun R β w => by kernel_rfl)
abbrev StT := Go.Proofs.YtebnpblincgjlaaDoor.St
def sV (N : Nat) (s : StT) (x : H4) : Value := stV s (.slice x.1.1 N x.1.2) (.slice x.2.1.1 0 x.2.1.2) (.slice x.2.2.1.1 0 x.2.2.1.2) (.slice x.2.2.2.1 0 x.2.2.2.2)
def pO (N : Nat) (y : H4) (po : List Po) : Bd := bdO 73 21 poC (.slice y.1.1 N y.1.2) po
def V3 (y : H4) : Bds := [bdO 98 3 vrC (.slice y.2.1.1 0 y.2.1.2) [], bdO 105 8 srC (.slice y.2.2.1.1 0 y.2.2.1.2) [], bdO 108 9 frC (.slice y.2.2.2.1 0 y.2.2.2.2) []]
def tO (z : H2) (told : List Td) : Bd := bdO 89 17 tdC (.slice z.1.1 told.length z.1.2) told
def fO (z : H2) (fl : List Int) : Bd := bdO 3 1 inC (.slice z.2.1 fl.length z.2.2) fl
def hNp (N : Nat) (y : H4) : Hp := ⟨y.1.1, N, y.1.2, .slice y.2.1.1 0 y.2.1.2, .slice y.2.2.1.1 0 y.2.2.1.2, .slice y.2.2.2.1 0 y.2.2.2.2⟩
abbrev z00 : H2 := ((none, 0), (none, 0))
section
variable {f : FuncId} {args : List Value} {cf : Cf} {po po' : List Po} {c : Nat → Int} {beat beat' : Int} {told : List Td} {fl : List Int} {N : Nat} {T t t' : TS}
theorem call_N (hN : po.length = N) (x : H4) (h : Fun Tryd.prog f (stH (bare cf po c beat) x :: args) (bdR :: stN (bare cf po c beat) x) (H4 × H2) (evAns (bare cf po c beat) T) (evOwn (bare cf po c beat) x T)) (hT : T = ⟨bare cf po' c beat', told, fl⟩) :
    Fun Tryd.prog f (sV N (bare cf po c beat) x :: args) (bdR :: pO N x po :: V3 x) (H4 × H2) (fun y => .tuple #[sV N (bare cf po' c beat') y.1, otV told fl y.2]) (fun y => [pO N y.1 po', tO y.2 told, fO y.2 fl, bdR] ++ (V3 y.1 ++ (pO N x po :: V3 x))) := by
  subst hN
  subst hT
  exact h
theorem acts_N (h : Acts 47 f args t t') (ht : t = ⟨bare cf po c beat, [], []⟩) (ht' : t' = ⟨bare cf po' c beat', told, fl⟩) (hN : po.length = N) (y : H4) :
    Meth Tryd.prog f args (acA ⟨bare cf po c beat, [], []⟩ (hNp N y) z00) 47 [pO N y po, tO z00 [], fO z00 [], bdR] H2 (fun _ => .tuple #[]) (fun z => acA ⟨bare cf po' c beat', told, fl⟩ (hNp N y) z) (fun z => [pO N y po', tO z told, fO z fl, bdR]) := by
  subst ht
  subst ht'
  exact h (hNp N y) z00 hN
theorem same_N (cf : Cf) (c : Nat → Int) (beat : Int) (hN : po.length = N) (hn : N ≤ 1000) (x y : H4) : Fun Tryd.prog 19 [sV N (bare cf po c beat) x, sV N (bare cf po c beat) y] [pO N x po, pO N y po] Unit (fun _ => .bool true) (fun _ => [pO N x po, pO N y po]) := by
  subst hN
  exact same_fun cf po c beat x y hn
theorem twsame_N (cf : Cf) (c : Nat → Int) (beat : Int) (told : List Td) (fl : List Int) (hN : po.length = N) (hn : N ≤ 1000) (ht : told.length ≤ 2000) (hf : fl.length ≤ 2000) (x y : H4) (z zo : H2) :
    Meth Tryd.prog 11 [sV N (bare cf po c beat) x, otV told fl zo] (acA ⟨bare cf po c beat, told, fl⟩ (hNp N y) z) 47 [pO N x po, pO N y po, tO z told, fO z fl, tO zo told, fO zo fl] Unit (fun _ => .bool true) (fun _ => acA ⟨bare cf po c beat, [], []⟩ (hNp N y) z00) (fun _ => [pO N x po, pO N y po, tO z00 [], fO z00 [], tO zo told, fO zo fl]) := by
  subst hN
  exact tw_same cf po c beat told fl y x z zo hn ht hf
theorem clone_N (cf : Cf) (c : Nat → Int) (beat : Int) (hN : po.length = N) (hn : N ≤ 1000) (x : H4) : Fun Tryd.prog 8 [sV N (bare cf po c beat) x] (pO N x po :: V3 x) H4 (fun y => sV N (bare cf po c beat) y) (fun y => (pO N y po :: V3 y) ++ (pO N x po :: V3 x)) := by
  subst hN
  exact clone_fun (bare cf po c beat) x ⟨hn, Nat.zero_le _, Nat.zero_le _, Nat.zero_le _⟩
theorem pdu_N (w : Ac) (cf : Cf) (c : Nat → Int) (beat : Int) (hN : po.length = N) (hn : N ≤ 16) (hok : ∀ (k : Nat) (z : Po), po[k]? = some z → okP z) (x : H4) (p : Int) : Fun Tryd.prog 16 [.agg (aqA w), sV N (bare cf po c beat) x, iv p] [pO N x po] Unit (fun _ => pdV (pdU (pduQ w) (pduV w (bare cf po c beat) p))) (fun _ => [pO N x po]) := by
  subst hN
  exact pdu_fun w (bare cf po c beat) x p hn hok
end
end
end Go.Proofs.YtebnpblincgjlaaDoor

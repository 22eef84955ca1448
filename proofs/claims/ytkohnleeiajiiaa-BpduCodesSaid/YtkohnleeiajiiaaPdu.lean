/- PDUs: what they hold, and which of them may be. -/
import Derived.Test.YtkohnleeiajiiaaTell
import Derived.Test.YtkohnleeiajiiaaQuietly
import Derived.Shelf.Abstract
import Derived.Laws.StructEq
namespace Go.Proofs.Ytkohnleeiajiiaa
open Go.RowKit
set_option linter.unusedSimpArgs false

/-- A PDU's fields. -/
structure Pd where
  kind : Nat
  top : Bool
  prop : Bool
  lrn : Bool
  fwd : Bool
  agr : Bool
  ack : Bool
  role : Nat
  root : Nat
  cost : Nat
  bridge : Nat
  port : Nat
  age : Nat
  maxAge : Nat
  hello : Nat
  delay : Nat

def Pd.ok (p : Pd) : Prop := p.kind < 256 ∧ p.role < 256 ∧ p.root < 18446744073709551616 ∧ p.cost < 4294967296 ∧ p.bridge < 18446744073709551616 ∧ p.port < 65536 ∧ p.age < 65536 ∧ p.maxAge < 65536 ∧ p.hello < 65536 ∧ p.delay < 65536

/-- .. as cells, and by value. -/
abbrev pdA (p : Pd) : Array Value := #[.int .u8 (p.kind : Nat), .bool p.top, .bool p.prop, .bool p.lrn, .bool p.fwd, .bool p.agr, .bool p.ack, .int .u8 (p.role : Nat), .int .u64 (p.root : Nat), .int .u32 (p.cost : Nat), .int .u64 (p.bridge : Nat), .int .u16 (p.port : Nat), .int .u16 (p.age : Nat), .int .u16 (p.maxAge : Nat), .int .u16 (p.hello : Nat), .int .u16 (p.delay : Nat)]
abbrev pdV (p : Pd) : Value := .agg (pdA p)
abbrev nil16 : Array Value := #[.int .u8 0, .bool false, .bool false, .bool false, .bool false, .bool false, .bool false, .int .u8 0, .int .u64 0, .int .u32 0, .int .u64 0, .int .u16 0, .int .u16 0, .int .u16 0, .int .u16 0, .int .u16 0]

theorem pdA0 (p : Pd) : (pdA p)[0]? = some (.int .u8 (p.kind : Nat)) := rfl
theorem pdA1 (p : Pd) : (pdA p)[1]? = some (.bool p.top) := rfl
theorem pdA2 (p : Pd) : (pdA p)[2]? = some (.bool p.prop) := rfl
theorem pdA3 (p : Pd) : (pdA p)[3]? = some (.bool p.lrn) := rfl
theorem pdA4 (p : Pd) : (pdA p)[4]? = some (.bool p.fwd) := rfl
theorem pdA5 (p : Pd) : (pdA p)[5]? = some (.bool p.agr) := rfl
theorem pdA6 (p : Pd) : (pdA p)[6]? = some (.bool p.ack) := rfl
theorem pdA7 (p : Pd) : (pdA p)[7]? = some (.int .u8 (p.role : Nat)) := rfl
theorem pdA8 (p : Pd) : (pdA p)[8]? = some (.int .u64 (p.root : Nat)) := rfl
theorem pdA9 (p : Pd) : (pdA p)[9]? = some (.int .u32 (p.cost : Nat)) := rfl
theorem pdA10 (p : Pd) : (pdA p)[10]? = some (.int .u64 (p.bridge : Nat)) := rfl
theorem pdA11 (p : Pd) : (pdA p)[11]? = some (.int .u16 (p.port : Nat)) := rfl
theorem pdA12 (p : Pd) : (pdA p)[12]? = some (.int .u16 (p.age : Nat)) := rfl
theorem pdA13 (p : Pd) : (pdA p)[13]? = some (.int .u16 (p.maxAge : Nat)) := rfl
theorem pdA14 (p : Pd) : (pdA p)[14]? = some (.int .u16 (p.hello : Nat)) := rfl
theorem pdA15 (p : Pd) : (pdA p)[15]? = some (.int .u16 (p.delay : Nat)) := rfl

/-- A PDU of a kind, and nothing else. -/
def kindP (k : Nat) : Pd := ⟨k, false, false, false, false, false, false, 0, 0, 0, 0, 0, 0, 0, 0, 0⟩
def eqP (p q : Pd) : Bool := decide (p.kind = q.kind) && decide (p.top = q.top) && decide (p.prop = q.prop) && decide (p.lrn = q.lrn) && decide (p.fwd = q.fwd) && decide (p.agr = q.agr) && decide (p.ack = q.ack) && decide (p.role = q.role) && decide (p.root = q.root) && decide (p.cost = q.cost) && decide (p.bridge = q.bridge) && decide (p.port = q.port) && decide (p.age = q.age) && decide (p.maxAge = q.maxAge) && decide (p.hello = q.hello) && decide (p.delay = q.delay)
theorem eqP_self (p : Pd) : eqP p p = true := by simp [eqP]

/-- May it be? -/
def goodP (p : Pd) : Bool := if p.kind = 0 then !p.prop && !p.lrn && !p.fwd && !p.agr && decide (p.role = 0) else if p.kind = 2 then decide (p.role ≤ 3) else eqP p (kindP 128)

theorem size31 : (Try.prog.info? 31).map (·.size) = some 16 := by kernel_rfl
theorem size38 : (Try.prog.info? 38).map (·.size) = some 16 := by kernel_rfl
theorem size26 : (Try.prog.info? 26).map (·.size) = some 16 := by kernel_rfl
theorem pdA_one (p : Pd) : (pdA p).all (·.oneCell') = true := by simp [Value.oneCell']

set_option maxRecDepth 100000 in
set_option maxHeartbeats 4000000 in
theorem equal_pd31 (p q : Pd) (w : World) : (Op.equalIn 10000 31 (pdV p) (pdV q)).run Try.prog w = .ok (eqP p q) w := by
  have hS : Try.prog.underlying 31 = some (.struct (Try.prog.fieldsOf 31)) := by kernel_rfl
  have hp : Try.prog.stoodInHeld 31 = false := by kernel_rfl
  rw [show (10000 : Nat) = 9999 + 1 from rfl, run_equalIn_agg w 9999 31 _ _ hS hp]
  simp only [Program.fieldsOf, Try.underlying31]
  have u4 := Try.underlying4
  have u5 := Try.underlying5
  have u22 := Try.underlying22
  have u23 := Try.underlying23
  have u24 := Try.underlying24
  have u29 := Try.underlying29
  go_simp
  simp only [Int.natCast_inj]
  unfold eqP
  by_cases h0 : p.kind = q.kind
  · by_cases h1 : p.top = q.top
    · by_cases h2 : p.prop = q.prop
      · by_cases h3 : p.lrn = q.lrn
        · by_cases h4 : p.fwd = q.fwd
          · by_cases h5 : p.agr = q.agr
            · by_cases h6 : p.ack = q.ack
              · by_cases h7 : p.role = q.role
                · by_cases h8 : p.root = q.root
                  · by_cases h9 : p.cost = q.cost
                    · by_cases h10 : p.bridge = q.bridge
                      · by_cases h11 : p.port = q.port
                        · by_cases h12 : p.age = q.age
                          · by_cases h13 : p.maxAge = q.maxAge
                            · by_cases h14 : p.hello = q.hello
                              · by_cases h15 : p.delay = q.delay <;> simp [h0, h1, h2, h3, h4, h5, h6, h7, h8, h9, h10, h11, h12, h13, h14, h15]
                              · simp [h0, h1, h2, h3, h4, h5, h6, h7, h8, h9, h10, h11, h12, h13, h14]
                            · simp [h0, h1, h2, h3, h4, h5, h6, h7, h8, h9, h10, h11, h12, h13]
                          · simp [h0, h1, h2, h3, h4, h5, h6, h7, h8, h9, h10, h11, h12]
                        · simp [h0, h1, h2, h3, h4, h5, h6, h7, h8, h9, h10, h11]
                      · simp [h0, h1, h2, h3, h4, h5, h6, h7, h8, h9, h10]
                    · simp [h0, h1, h2, h3, h4, h5, h6, h7, h8, h9]
                  · simp [h0, h1, h2, h3, h4, h5, h6, h7, h8]
                · simp [h0, h1, h2, h3, h4, h5, h6, h7]
              · simp [h0, h1, h2, h3, h4, h5, h6]
            · simp [h0, h1, h2, h3, h4, h5]
          · simp [h0, h1, h2, h3, h4]
        · simp [h0, h1, h2, h3]
      · simp [h0, h1, h2]
    · simp [h0, h1]
  · simp [h0]

set_option maxRecDepth 100000 in
set_option maxHeartbeats 4000000 in
theorem equal_pd38 (p q : Pd) (w : World) : (Op.equalIn 10000 38 (pdV p) (pdV q)).run Try.prog w = .ok (eqP p q) w := by
  have hS : Try.prog.underlying 38 = some (.struct (Try.prog.fieldsOf 38)) := by kernel_rfl
  have hp : Try.prog.stoodInHeld 38 = false := by kernel_rfl
  rw [show (10000 : Nat) = 9999 + 1 from rfl, run_equalIn_agg w 9999 38 _ _ hS hp]
  simp only [Program.fieldsOf, Try.underlying38]
  have u4 := Try.underlying4
  have u5 := Try.underlying5
  have u22 := Try.underlying22
  have u23 := Try.underlying23
  have u24 := Try.underlying24
  have u29 := Try.underlying29
  go_simp
  simp only [Int.natCast_inj]
  unfold eqP
  by_cases h0 : p.kind = q.kind
  · by_cases h1 : p.top = q.top
    · by_cases h2 : p.prop = q.prop
      · by_cases h3 : p.lrn = q.lrn
        · by_cases h4 : p.fwd = q.fwd
          · by_cases h5 : p.agr = q.agr
            · by_cases h6 : p.ack = q.ack
              · by_cases h7 : p.role = q.role
                · by_cases h8 : p.root = q.root
                  · by_cases h9 : p.cost = q.cost
                    · by_cases h10 : p.bridge = q.bridge
                      · by_cases h11 : p.port = q.port
                        · by_cases h12 : p.age = q.age
                          · by_cases h13 : p.maxAge = q.maxAge
                            · by_cases h14 : p.hello = q.hello
                              · by_cases h15 : p.delay = q.delay <;> simp [h0, h1, h2, h3, h4, h5, h6, h7, h8, h9, h10, h11, h12, h13, h14, h15]
                              · simp [h0, h1, h2, h3, h4, h5, h6, h7, h8, h9, h10, h11, h12, h13, h14]
                            · simp [h0, h1, h2, h3, h4, h5, h6, h7, h8, h9, h10, h11, h12, h13]
                          · simp [h0, h1, h2, h3, h4, h5, h6, h7, h8, h9, h10, h11, h12]
                        · simp [h0, h1, h2, h3, h4, h5, h6, h7, h8, h9, h10, h11]
                      · simp [h0, h1, h2, h3, h4, h5, h6, h7, h8, h9, h10]
                    · simp [h0, h1, h2, h3, h4, h5, h6, h7, h8, h9]
                  · simp [h0, h1, h2, h3, h4, h5, h6, h7, h8]
                · simp [h0, h1, h2, h3, h4, h5, h6, h7]
              · simp [h0, h1, h2, h3, h4, h5, h6]
            · simp [h0, h1, h2, h3, h4, h5]
          · simp [h0, h1, h2, h3, h4]
        · simp [h0, h1, h2, h3]
      · simp [h0, h1, h2]
    · simp [h0, h1]
  · simp [h0]

end Go.Proofs.Ytkohnleeiajiiaa

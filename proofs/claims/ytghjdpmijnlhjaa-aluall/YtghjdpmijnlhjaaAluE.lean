/-
  The walk of the law AluMoves.
-/
import Derived.Test.YtghjdpmijnlhjaaAluB
import Derived.Test.YtghjdpmijnlhjaaSeq0
import Derived.Laws.Bits128
namespace Go.Proofs.Ytghjdpmijnlhjaa
open Go.RowKit
set_option linter.unusedVariables false
set_option linter.unusedSimpArgs false
structure A.Mv (s X Y Z V : A.Regs) (B B10 B12 B14 B16 : Nat) (w w' : World) : Prop where
  kept : Kept w w'
  hS : Has B (A.cells s) 25 w'
  hX : Has B10 (A.cells X) 25 w'
  hY : Has B12 (A.cells Y) 25 w'
  hZ : Has B14 (A.cells Z) 25 w'
  hV : Has B16 (A.cells V) 25 w'
theorem A.Mv.step {s X Y Z V : A.Regs} {B B10 B12 B14 B16 : Nat} {w w1 w2 : World} (h : A.Mv s X Y Z V B B10 B12 B14 B16 w w1) (hK : Kept w1 w2) : A.Mv s X Y Z V B B10 B12 B14 B16 w w2 :=
  ⟨h.kept.trans hK, h.hS.kept hK, h.hX.kept hK, h.hY.kept hK, h.hZ.kept hK, h.hV.kept hK⟩
def OPS8 : Array Oper := #[{ dst := some 61, op := Op.move (Operand.tmp 7), type := 4, pos := "more.go:34", after := #[], guard := none }, { dst := some 62, op := Op.move (Operand.tmp 61), type := 4, pos := "more.go:34", after := #[{ on := 0, ground := Ground.data }], guard := none }, { dst := some 63, op := Op.move (Operand.tmp 11), type := 3, pos := "more.go:34", after := #[{ on := 1, ground := Ground.guard }], guard := some (1, true) }, { dst := some 64, op := Op.binOp BinOp.eql 3 (Operand.tmp 63) (Operand.const (Value.int IntKind.i64 0)) 3, type := 4, pos := "more.go:34", after := #[{ on := 2, ground := Ground.data }, { on := 1, ground := Ground.guard }], guard := some (1, true) }, { dst := some 65, op := Op.pick (Operand.tmp 62) (Operand.tmp 64) (Operand.const (Value.bool false)), type := 4, pos := "more.go:34", after := #[{ on := 1, ground := Ground.data }, { on := 3, ground := Ground.data }], guard := none }, { dst := some 66, op := Op.move (Operand.tmp 65), type := 4, pos := "more.go:34", after := #[{ on := 4, ground := Ground.data }, { on := 1, ground := Ground.chain }], guard := none }, { dst := some 67, op := Op.move (Operand.tmp 13), type := 3, pos := "more.go:34", after := #[{ on := 5, ground := Ground.guard }], guard := some (5, true) }, { dst := some 68, op := Op.binOp BinOp.eql 3 (Operand.tmp 67) (Operand.const (Value.int IntKind.i64 0)) 3, type := 4, pos := "more.go:34", after := #[{ on := 6, ground := Ground.data }, { on := 5, ground := Ground.guard }], guard := some (5, true) }, { dst := some 69, op := Op.pick (Operand.tmp 66) (Operand.tmp 68) (Operand.const (Value.bool false)), type := 4, pos := "more.go:34", after := #[{ on := 5, ground := Ground.data }, { on := 7, ground := Ground.data }], guard := none }, { dst := some 70, op := Op.move (Operand.tmp 69), type := 4, pos := "more.go:34", after := #[{ on := 8, ground := Ground.data }, { on := 5, ground := Ground.chain }], guard := none }, { dst := some 71, op := Op.move (Operand.tmp 15), type := 3, pos := "more.go:34", after := #[{ on := 9, ground := Ground.guard }], guard := some (9, true) }, { dst := some 72, op := Op.binOp BinOp.eql 3 (Operand.tmp 71) (Operand.const (Value.int IntKind.i64 0)) 3, type := 4, pos := "more.go:34", after := #[{ on := 10, ground := Ground.data }, { on := 9, ground := Ground.guard }], guard := some (9, true) }, { dst := some 73, op := Op.pick (Operand.tmp 70) (Operand.tmp 72) (Operand.const (Value.bool false)), type := 4, pos := "more.go:34", after := #[{ on := 9, ground := Ground.data }, { on := 11, ground := Ground.data }], guard := none }, { dst := some 74, op := Op.move (Operand.tmp 73), type := 4, pos := "more.go:34", after := #[{ on := 12, ground := Ground.data }, { on := 9, ground := Ground.chain }], guard := none }, { dst := some 75, op := Op.move (Operand.tmp 17), type := 3, pos := "more.go:34", after := #[{ on := 13, ground := Ground.guard }], guard := some (13, true) }, { dst := some 76, op := Op.binOp BinOp.eql 3 (Operand.tmp 75) (Operand.const (Value.int IntKind.i64 0)) 3, type := 4, pos := "more.go:34", after := #[{ on := 14, ground := Ground.data }, { on := 13, ground := Ground.guard }], guard := some (13, true) }, { dst := some 77, op := Op.pick (Operand.tmp 74) (Operand.tmp 76) (Operand.const (Value.bool false)), type := 4, pos := "more.go:34", after := #[{ on := 13, ground := Ground.data }, { on := 15, ground := Ground.data }], guard := none }, { dst := some 78, op := Op.move (Operand.tmp 77), type := 4, pos := "more.go:34", after := #[{ on := 16, ground := Ground.data }, { on := 13, ground := Ground.chain }], guard := none }, { dst := some 79, op := Op.move (Operand.tmp 9), type := 3, pos := "more.go:34", after := #[{ on := 17, ground := Ground.guard }], guard := some (17, true) }, { dst := some 80, op := Op.fieldAddr 25 (Operand.tmp 10) 0, type := 0, pos := "more.go:34", after := #[{ on := 17, ground := Ground.guard }], guard := some (17, true) }, { dst := some 81, op := Op.indexAddr 23 (Operand.tmp 80) (Operand.tmp 79), type := 0, pos := "more.go:34", after := #[{ on := 19, ground := Ground.data }, { on := 18, ground := Ground.data }, { on := 17, ground := Ground.guard }], guard := some (17, true) }, { dst := some 82, op := Op.load 22 (Operand.tmp 81), type := 22, pos := "more.go:34", after := #[{ on := 20, ground := Ground.data }, { on := 17, ground := Ground.guard }], guard := some (17, true) }, { dst := some 83, op := Op.move (Operand.tmp 8), type := 3, pos := "more.go:34", after := #[{ on := 17, ground := Ground.guard }], guard := some (17, true) }, { dst := some 84, op := Op.convert 3 22 (Operand.tmp 83), type := 22, pos := "more.go:34", after := #[{ on := 22, ground := Ground.data }, { on := 17, ground := Ground.guard }], guard := some (17, true) }, { dst := some 85, op := Op.binOp BinOp.eql 22 (Operand.tmp 82) (Operand.tmp 84) 22, type := 4, pos := "more.go:34", after := #[{ on := 21, ground := Ground.data }, { on := 23, ground := Ground.data }, { on := 17, ground := Ground.guard }], guard := some (17, true) }, { dst := some 86, op := Op.pick (Operand.tmp 78) (Operand.tmp 85) (Operand.const (Value.bool false)), type := 4, pos := "more.go:34", after := #[{ on := 17, ground := Ground.data }, { on := 24, ground := Ground.data }], guard := none }, { dst := some 87, op := Op.move (Operand.tmp 86), type := 4, pos := "more.go:34", after := #[{ on := 25, ground := Ground.data }, { on := 17, ground := Ground.chain }], guard := none }, { dst := some 88, op := Op.fieldAddr 25 (Operand.tmp 10) 2, type := 0, pos := "more.go:34", after := #[{ on := 26, ground := Ground.guard }], guard := some (26, true) }, { dst := some 89, op := Op.load 4 (Operand.tmp 88), type := 4, pos := "more.go:34", after := #[{ on := 27, ground := Ground.data }, { on := 26, ground := Ground.guard }], guard := some (26, true) }, { dst := some 90, op := Op.move (Operand.tmp 8), type := 3, pos := "more.go:34", after := #[{ on := 26, ground := Ground.guard }], guard := some (26, true) }, { dst := some 91, op := Op.binOp BinOp.lss 3 (Operand.tmp 90) (Operand.const (Value.int IntKind.i64 0)) 3, type := 4, pos := "more.go:34", after := #[{ on := 29, ground := Ground.data }, { on := 26, ground := Ground.guard }], guard := some (26, true) }, { dst := some 92, op := Op.binOp BinOp.eql 4 (Operand.tmp 89) (Operand.tmp 91) 4, type := 4, pos := "more.go:34", after := #[{ on := 28, ground := Ground.data }, { on := 30, ground := Ground.data }, { on := 26, ground := Ground.guard }], guard := some (26, true) }, { dst := some 93, op := Op.pick (Operand.tmp 87) (Operand.tmp 92) (Operand.const (Value.bool false)), type := 4, pos := "more.go:34", after := #[{ on := 26, ground := Ground.data }, { on := 31, ground := Ground.data }], guard := none }, { dst := some 94, op := Op.move (Operand.tmp 93), type := 4, pos := "more.go:34", after := #[{ on := 32, ground := Ground.data }, { on := 26, ground := Ground.chain }], guard := none }, { dst := some 95, op := Op.fieldAddr 25 (Operand.tmp 10) 3, type := 0, pos := "more.go:34", after := #[{ on := 33, ground := Ground.guard }], guard := some (33, true) }, { dst := some 96, op := Op.load 4 (Operand.tmp 95), type := 4, pos := "more.go:34", after := #[{ on := 34, ground := Ground.data }, { on := 33, ground := Ground.guard }], guard := some (33, true) }, { dst := some 97, op := Op.move (Operand.tmp 8), type := 3, pos := "more.go:34", after := #[{ on := 33, ground := Ground.guard }], guard := some (33, true) }, { dst := some 98, op := Op.binOp BinOp.eql 3 (Operand.tmp 97) (Operand.const (Value.int IntKind.i64 0)) 3, type := 4, pos := "more.go:34", after := #[{ on := 36, ground := Ground.data }, { on := 33, ground := Ground.guard }], guard := some (33, true) }, { dst := some 99, op := Op.binOp BinOp.eql 4 (Operand.tmp 96) (Operand.tmp 98) 4, type := 4, pos := "more.go:34", after := #[{ on := 35, ground := Ground.data }, { on := 37, ground := Ground.data }, { on := 33, ground := Ground.guard }], guard := some (33, true) }, { dst := some 100, op := Op.pick (Operand.tmp 94) (Operand.tmp 99) (Operand.const (Value.bool false)), type := 4, pos := "more.go:34", after := #[{ on := 33, ground := Ground.data }, { on := 38, ground := Ground.data }], guard := none }, { dst := some 101, op := Op.move (Operand.tmp 100), type := 4, pos := "more.go:34", after := #[{ on := 39, ground := Ground.data }, { on := 33, ground := Ground.chain }], guard := none }, { dst := some 102, op := Op.move (Operand.tmp 9), type := 3, pos := "more.go:34", after := #[{ on := 40, ground := Ground.guard }], guard := some (40, true) }, { dst := some 103, op := Op.fieldAddr 25 (Operand.tmp 12) 0, type := 0, pos := "more.go:34", after := #[{ on := 40, ground := Ground.guard }], guard := some (40, true) }, { dst := some 104, op := Op.indexAddr 23 (Operand.tmp 103) (Operand.tmp 102), type := 0, pos := "more.go:34", after := #[{ on := 42, ground := Ground.data }, { on := 41, ground := Ground.data }, { on := 40, ground := Ground.guard }], guard := some (40, true) }, { dst := some 105, op := Op.load 22 (Operand.tmp 104), type := 22, pos := "more.go:34", after := #[{ on := 43, ground := Ground.data }, { on := 40, ground := Ground.guard }], guard := some (40, true) }, { dst := some 106, op := Op.move (Operand.tmp 8), type := 3, pos := "more.go:34", after := #[{ on := 40, ground := Ground.guard }], guard := some (40, true) }, { dst := some 107, op := Op.binOp BinOp.and 3 (Operand.tmp 106) (Operand.const (Value.int IntKind.i64 65535)) 3, type := 3, pos := "more.go:34", after := #[{ on := 45, ground := Ground.data }, { on := 40, ground := Ground.guard }], guard := some (40, true) }, { dst := some 108, op := Op.convert 3 22 (Operand.tmp 107), type := 22, pos := "more.go:34", after := #[{ on := 46, ground := Ground.data }, { on := 40, ground := Ground.guard }], guard := some (40, true) }, { dst := some 109, op := Op.binOp BinOp.shl 22 (Operand.tmp 108) (Operand.const (Value.int IntKind.u64 16)) 40, type := 22, pos := "more.go:34", after := #[{ on := 47, ground := Ground.data }, { on := 40, ground := Ground.guard }], guard := some (40, true) }, { dst := some 110, op := Op.binOp BinOp.eql 22 (Operand.tmp 105) (Operand.tmp 109) 22, type := 4, pos := "more.go:34", after := #[{ on := 44, ground := Ground.data }, { on := 48, ground := Ground.data }, { on := 40, ground := Ground.guard }], guard := some (40, true) }, { dst := some 111, op := Op.pick (Operand.tmp 101) (Operand.tmp 110) (Operand.const (Value.bool false)), type := 4, pos := "more.go:34", after := #[{ on := 40, ground := Ground.data }, { on := 49, ground := Ground.data }], guard := none }, { dst := some 112, op := Op.move (Operand.tmp 111), type := 4, pos := "more.go:34", after := #[{ on := 50, ground := Ground.data }, { on := 40, ground := Ground.chain }], guard := none }, { dst := some 113, op := Op.load 25 (Operand.tmp 14), type := 25, pos := "more.go:34", after := #[{ on := 51, ground := Ground.guard }], guard := some (51, true) }, { dst := some 114, op := Op.load 25 (Operand.tmp 3), type := 25, pos := "more.go:34", after := #[{ on := 51, ground := Ground.guard }], guard := some (51, true) }, { dst := some 115, op := Op.move (Operand.tmp 9), type := 3, pos := "more.go:34", after := #[{ on := 51, ground := Ground.guard }], guard := some (51, true) }, { dst := some 116, op := Op.fieldAddr 25 (Operand.tmp 3) 0, type := 0, pos := "more.go:34", after := #[{ on := 51, ground := Ground.guard }], guard := some (51, true) }, { dst := some 117, op := Op.indexAddr 23 (Operand.tmp 116) (Operand.tmp 115), type := 0, pos := "more.go:34", after := #[{ on := 55, ground := Ground.data }, { on := 54, ground := Ground.data }, { on := 51, ground := Ground.guard }], guard := some (51, true) }, { dst := some 118, op := Op.load 22 (Operand.tmp 117), type := 22, pos := "more.go:34", after := #[{ on := 56, ground := Ground.data }, { on := 51, ground := Ground.guard }], guard := some (51, true) }, { dst := some 119, op := Op.call { callee := Callee.value (Operand.func 16), args := #[Operand.tmp 114, Operand.tmp 118], argTypes := #[25, 22] }, type := 25, pos := "more.go:34", after := #[{ on := 53, ground := Ground.data }, { on := 57, ground := Ground.data }, { on := 51, ground := Ground.chain }, { on := 51, ground := Ground.guard }], guard := some (51, true) }, { dst := some 120, op := Op.binOp BinOp.eql 25 (Operand.tmp 113) (Operand.tmp 119) 25, type := 4, pos := "more.go:34", after := #[{ on := 52, ground := Ground.data }, { on := 58, ground := Ground.data }, { on := 51, ground := Ground.guard }], guard := some (51, true) }, { dst := some 121, op := Op.pick (Operand.tmp 112) (Operand.tmp 120) (Operand.const (Value.bool false)), type := 4, pos := "more.go:34", after := #[{ on := 51, ground := Ground.data }, { on := 59, ground := Ground.data }], guard := none }, { dst := some 122, op := Op.move (Operand.tmp 121), type := 4, pos := "more.go:34", after := #[{ on := 60, ground := Ground.data }, { on := 58, ground := Ground.chain }], guard := none }, { dst := some 123, op := Op.move (Operand.tmp 9), type := 3, pos := "more.go:34", after := #[{ on := 61, ground := Ground.guard }], guard := some (61, true) }, { dst := some 124, op := Op.fieldAddr 25 (Operand.tmp 16) 0, type := 0, pos := "more.go:34", after := #[{ on := 61, ground := Ground.guard }], guard := some (61, true) }, { dst := some 125, op := Op.indexAddr 23 (Operand.tmp 124) (Operand.tmp 123), type := 0, pos := "more.go:34", after := #[{ on := 63, ground := Ground.data }, { on := 62, ground := Ground.data }, { on := 61, ground := Ground.guard }], guard := some (61, true) }, { dst := some 126, op := Op.load 22 (Operand.tmp 125), type := 22, pos := "more.go:34", after := #[{ on := 64, ground := Ground.data }, { on := 61, ground := Ground.guard }], guard := some (61, true) }, { dst := some 127, op := Op.move (Operand.tmp 8), type := 3, pos := "more.go:34", after := #[{ on := 61, ground := Ground.guard }], guard := some (61, true) }, { dst := some 128, op := Op.binOp BinOp.and 3 (Operand.tmp 127) (Operand.const (Value.int IntKind.i64 65535)) 3, type := 3, pos := "more.go:34", after := #[{ on := 66, ground := Ground.data }, { on := 61, ground := Ground.guard }], guard := some (61, true) }, { dst := some 129, op := Op.convert 3 22 (Operand.tmp 128), type := 22, pos := "more.go:34", after := #[{ on := 67, ground := Ground.data }, { on := 61, ground := Ground.guard }], guard := some (61, true) }, { dst := some 130, op := Op.binOp BinOp.shl 22 (Operand.tmp 129) (Operand.const (Value.int IntKind.u64 16)) 40, type := 22, pos := "more.go:34", after := #[{ on := 68, ground := Ground.data }, { on := 61, ground := Ground.guard }], guard := some (61, true) }, { dst := some 131, op := Op.move (Operand.tmp 8), type := 3, pos := "more.go:34", after := #[{ on := 61, ground := Ground.guard }], guard := some (61, true) }, { dst := some 132, op := Op.binOp BinOp.and 3 (Operand.tmp 131) (Operand.const (Value.int IntKind.i64 65535)) 3, type := 3, pos := "more.go:34", after := #[{ on := 70, ground := Ground.data }, { on := 61, ground := Ground.guard }], guard := some (61, true) }, { dst := some 133, op := Op.convert 3 22 (Operand.tmp 132), type := 22, pos := "more.go:34", after := #[{ on := 71, ground := Ground.data }, { on := 61, ground := Ground.guard }], guard := some (61, true) }, { dst := some 134, op := Op.binOp BinOp.add 22 (Operand.tmp 130) (Operand.tmp 133) 22, type := 22, pos := "more.go:34", after := #[{ on := 69, ground := Ground.data }, { on := 72, ground := Ground.data }, { on := 61, ground := Ground.guard }], guard := some (61, true) }, { dst := some 135, op := Op.binOp BinOp.eql 22 (Operand.tmp 126) (Operand.tmp 134) 22, type := 4, pos := "more.go:34", after := #[{ on := 65, ground := Ground.data }, { on := 73, ground := Ground.data }, { on := 61, ground := Ground.guard }], guard := some (61, true) }, { dst := some 136, op := Op.pick (Operand.tmp 122) (Operand.tmp 135) (Operand.const (Value.bool false)), type := 4, pos := "more.go:34", after := #[{ on := 61, ground := Ground.data }, { on := 74, ground := Ground.data }], guard := none }, { dst := some 137, op := Op.move (Operand.tmp 136), type := 4, pos := "more.go:34", after := #[{ on := 75, ground := Ground.data }, { on := 61, ground := Ground.chain }], guard := none }, { dst := some 138, op := Op.fieldAddr 25 (Operand.tmp 14) 4, type := 0, pos := "more.go:34", after := #[{ on := 76, ground := Ground.guard }], guard := some (76, true) }, { dst := some 139, op := Op.load 4 (Operand.tmp 138), type := 4, pos := "more.go:34", after := #[{ on := 77, ground := Ground.data }, { on := 76, ground := Ground.guard }], guard := some (76, true) }, { dst := some 140, op := Op.fieldAddr 25 (Operand.tmp 3) 4, type := 0, pos := "more.go:34", after := #[{ on := 76, ground := Ground.guard }], guard := some (76, true) }, { dst := some 141, op := Op.load 4 (Operand.tmp 140), type := 4, pos := "more.go:34", after := #[{ on := 79, ground := Ground.data }, { on := 76, ground := Ground.guard }], guard := some (76, true) }, { dst := some 142, op := Op.binOp BinOp.eql 4 (Operand.tmp 139) (Operand.tmp 141) 4, type := 4, pos := "more.go:34", after := #[{ on := 78, ground := Ground.data }, { on := 80, ground := Ground.data }, { on := 76, ground := Ground.guard }], guard := some (76, true) }, { dst := some 143, op := Op.pick (Operand.tmp 137) (Operand.tmp 142) (Operand.const (Value.bool false)), type := 4, pos := "more.go:34", after := #[{ on := 76, ground := Ground.data }, { on := 81, ground := Ground.data }], guard := none }, { dst := some 144, op := Op.move (Operand.tmp 143), type := 4, pos := "more.go:34", after := #[{ on := 82, ground := Ground.data }, { on := 76, ground := Ground.chain }], guard := none }, { dst := some 145, op := Op.fieldAddr 25 (Operand.tmp 14) 5, type := 0, pos := "more.go:34", after := #[{ on := 83, ground := Ground.guard }], guard := some (83, true) }, { dst := some 146, op := Op.load 4 (Operand.tmp 145), type := 4, pos := "more.go:34", after := #[{ on := 84, ground := Ground.data }, { on := 83, ground := Ground.guard }], guard := some (83, true) }, { dst := some 147, op := Op.fieldAddr 25 (Operand.tmp 3) 5, type := 0, pos := "more.go:34", after := #[{ on := 83, ground := Ground.guard }], guard := some (83, true) }, { dst := some 148, op := Op.load 4 (Operand.tmp 147), type := 4, pos := "more.go:34", after := #[{ on := 86, ground := Ground.data }, { on := 83, ground := Ground.guard }], guard := some (83, true) }, { dst := some 149, op := Op.binOp BinOp.eql 4 (Operand.tmp 146) (Operand.tmp 148) 4, type := 4, pos := "more.go:34", after := #[{ on := 85, ground := Ground.data }, { on := 87, ground := Ground.data }, { on := 83, ground := Ground.guard }], guard := some (83, true) }, { dst := some 150, op := Op.pick (Operand.tmp 144) (Operand.tmp 149) (Operand.const (Value.bool false)), type := 4, pos := "more.go:34", after := #[{ on := 83, ground := Ground.data }, { on := 88, ground := Ground.data }], guard := none }, { dst := some 151, op := Op.move (Operand.tmp 150), type := 4, pos := "more.go:34", after := #[{ on := 89, ground := Ground.data }, { on := 83, ground := Ground.chain }], guard := none }, { dst := some 152, op := Op.fieldAddr 25 (Operand.tmp 14) 1, type := 0, pos := "more.go:34", after := #[{ on := 90, ground := Ground.guard }], guard := some (90, true) }, { dst := some 153, op := Op.load 22 (Operand.tmp 152), type := 22, pos := "more.go:34", after := #[{ on := 91, ground := Ground.data }, { on := 90, ground := Ground.guard }], guard := some (90, true) }, { dst := some 154, op := Op.fieldAddr 25 (Operand.tmp 3) 1, type := 0, pos := "more.go:34", after := #[{ on := 90, ground := Ground.guard }], guard := some (90, true) }, { dst := some 155, op := Op.load 22 (Operand.tmp 154), type := 22, pos := "more.go:34", after := #[{ on := 93, ground := Ground.data }, { on := 90, ground := Ground.guard }], guard := some (90, true) }, { dst := some 156, op := Op.binOp BinOp.eql 22 (Operand.tmp 153) (Operand.tmp 155) 22, type := 4, pos := "more.go:34", after := #[{ on := 92, ground := Ground.data }, { on := 94, ground := Ground.data }, { on := 90, ground := Ground.guard }], guard := some (90, true) }, { dst := some 157, op := Op.pick (Operand.tmp 151) (Operand.tmp 156) (Operand.const (Value.bool false)), type := 4, pos := "more.go:34", after := #[{ on := 90, ground := Ground.data }, { on := 95, ground := Ground.data }], guard := none }, { dst := some 6, op := Op.assign (Operand.tmp 157), type := 4, pos := "more.go:34", after := #[{ on := 96, ground := Ground.data }, { on := 90, ground := Ground.chain }, { on := 0, ground := Ground.phase }, { on := 1, ground := Ground.phase }, { on := 2, ground := Ground.phase }, { on := 3, ground := Ground.phase }, { on := 4, ground := Ground.phase }, { on := 5, ground := Ground.phase }, { on := 6, ground := Ground.phase }, { on := 7, ground := Ground.phase }, { on := 8, ground := Ground.phase }, { on := 9, ground := Ground.phase }, { on := 10, ground := Ground.phase }, { on := 11, ground := Ground.phase }, { on := 12, ground := Ground.phase }, { on := 13, ground := Ground.phase }, { on := 14, ground := Ground.phase }, { on := 15, ground := Ground.phase }, { on := 16, ground := Ground.phase }, { on := 17, ground := Ground.phase }, { on := 18, ground := Ground.phase }, { on := 19, ground := Ground.phase }, { on := 20, ground := Ground.phase }, { on := 21, ground := Ground.phase }, { on := 22, ground := Ground.phase }, { on := 23, ground := Ground.phase }, { on := 24, ground := Ground.phase }, { on := 25, ground := Ground.phase }, { on := 26, ground := Ground.phase }, { on := 27, ground := Ground.phase }, { on := 28, ground := Ground.phase }, { on := 29, ground := Ground.phase }, { on := 30, ground := Ground.phase }, { on := 31, ground := Ground.phase }, { on := 32, ground := Ground.phase }, { on := 33, ground := Ground.phase }, { on := 34, ground := Ground.phase }, { on := 35, ground := Ground.phase }, { on := 36, ground := Ground.phase }, { on := 37, ground := Ground.phase }, { on := 38, ground := Ground.phase }, { on := 39, ground := Ground.phase }, { on := 40, ground := Ground.phase }, { on := 41, ground := Ground.phase }, { on := 42, ground := Ground.phase }, { on := 43, ground := Ground.phase }, { on := 44, ground := Ground.phase }, { on := 45, ground := Ground.phase }, { on := 46, ground := Ground.phase }, { on := 47, ground := Ground.phase }, { on := 48, ground := Ground.phase }, { on := 49, ground := Ground.phase }, { on := 50, ground := Ground.phase }, { on := 51, ground := Ground.phase }, { on := 52, ground := Ground.phase }, { on := 53, ground := Ground.phase }, { on := 54, ground := Ground.phase }, { on := 55, ground := Ground.phase }, { on := 56, ground := Ground.phase }, { on := 57, ground := Ground.phase }, { on := 58, ground := Ground.phase }, { on := 59, ground := Ground.phase }, { on := 60, ground := Ground.phase }, { on := 61, ground := Ground.phase }, { on := 62, ground := Ground.phase }, { on := 63, ground := Ground.phase }, { on := 64, ground := Ground.phase }, { on := 65, ground := Ground.phase }, { on := 66, ground := Ground.phase }, { on := 67, ground := Ground.phase }, { on := 68, ground := Ground.phase }, { on := 69, ground := Ground.phase }, { on := 70, ground := Ground.phase }, { on := 71, ground := Ground.phase }, { on := 72, ground := Ground.phase }, { on := 73, ground := Ground.phase }, { on := 74, ground := Ground.phase }, { on := 75, ground := Ground.phase }, { on := 76, ground := Ground.phase }, { on := 77, ground := Ground.phase }, { on := 78, ground := Ground.phase }, { on := 79, ground := Ground.phase }, { on := 80, ground := Ground.phase }, { on := 81, ground := Ground.phase }, { on := 82, ground := Ground.phase }, { on := 83, ground := Ground.phase }, { on := 84, ground := Ground.phase }, { on := 85, ground := Ground.phase }, { on := 86, ground := Ground.phase }, { on := 87, ground := Ground.phase }, { on := 88, ground := Ground.phase }, { on := 89, ground := Ground.phase }, { on := 90, ground := Ground.phase }, { on := 91, ground := Ground.phase }, { on := 92, ground := Ground.phase }, { on := 93, ground := Ground.phase }, { on := 94, ground := Ground.phase }, { on := 95, ground := Ground.phase }, { on := 96, ground := Ground.phase }], guard := none }]
theorem OPS8_size : OPS8.size = 98 := by kernel_rfl
theorem OPS8_sel : Region.noSelect OPS8 = true := by kernel_rfl
theorem OPS8_g0 : Goes OPS8 98 0 8 = true := by kernel_rfl
theorem OPS8_g1 : Goes OPS8 98 8 8 = true := by kernel_rfl
theorem OPS8_g2 : Goes OPS8 98 16 8 = true := by kernel_rfl
theorem OPS8_g3 : Goes OPS8 98 24 8 = true := by kernel_rfl
theorem OPS8_g4 : Goes OPS8 98 32 8 = true := by kernel_rfl
theorem OPS8_g5 : Goes OPS8 98 40 8 = true := by kernel_rfl
theorem OPS8_g6 : Goes OPS8 98 48 8 = true := by kernel_rfl
theorem OPS8_g7 : Goes OPS8 98 56 2 = true := by kernel_rfl
theorem OPS8_g8 : Goes OPS8 98 59 8 = true := by kernel_rfl
theorem OPS8_g9 : Goes OPS8 98 67 8 = true := by kernel_rfl
theorem OPS8_g10 : Goes OPS8 98 75 8 = true := by kernel_rfl
theorem OPS8_g11 : Goes OPS8 98 83 8 = true := by kernel_rfl
theorem OPS8_g12 : Goes OPS8 98 91 7 = true := by kernel_rfl
set_option maxRecDepth 100000 in
set_option maxHeartbeats 2000000 in
theorem walk_Moves_at (s X Y Z V : A.Regs) (n k j M L : Int) (n0 : -2147483648 ≤ n) (n1 : n ≤ 2147483647) (k0 : 0 ≤ k) (k1 : k ≤ 255)
    (hA : bits .and .u8 k 15 = j) (hM : bits .and .i64 n 131071 = M) (hL : bits .and .i64 (M - 65536) 65535 = L) (A0 : 0 ≤ j) (A1 : j < 16) (M0 : 0 ≤ M) (M1 : M ≤ 131071) (L0 : 0 ≤ L) (L1 : L ≤ 65535)
    (eX : X.r j.toNat = IntKind.u32.wrap (M - 65536)) (eN : X.n = decide (M - 65536 < 0)) (eZ : X.z = (M - 65536 == 0)) (eY : Y.r j.toNat = IntKind.u32.wrap (IntKind.u32.wrap L * 65536)) (eV : V.r j.toNat = IntKind.u32.wrap (IntKind.u32.wrap (IntKind.u32.wrap L * 65536) + IntKind.u32.wrap L)) (eh : Z.h = s.h) (ec : Z.c = s.c) (ev : Z.v = s.v) (w : World)
    (C1 : Hid (∀ w, Calls Try.prog 11 #[.agg (A.cells (s)), .agg #[.int .i64 2, .int .i64 0, .int .i64 j, .int .i64 0, .int .i64 0, .int .i64 (M - 65536), .bool false]] w fun e w' => e = .returned (.tuple #[.agg (A.cells (X)), .int .i64 0]) ∧ Kept w w'))
    (C2 : Hid (∀ w, Calls Try.prog 11 #[.agg (A.cells (s)), .agg #[.int .i64 2, .int .i64 0, .int .i64 j, .int .i64 0, .int .i64 0, .int .i64 L, .bool true]] w fun e w' => e = .returned (.tuple #[.agg (A.cells (Y)), .int .i64 0]) ∧ Kept w w'))
    (C3 : Hid (∀ w, Calls Try.prog 11 #[.agg (A.cells (s)), .agg #[.int .i64 1, .int .i64 0, .int .i64 j, .int .i64 0, .int .i64 j, .int .i64 0, .bool false]] w fun e w' => e = .returned (.tuple #[.agg (A.cells (Z)), .int .i64 0]) ∧ Kept w w'))
    (C4 : Hid (∀ w, Calls Try.prog 11 #[.agg (A.cells (Y)), .agg #[.int .i64 2, .int .i64 6, .int .i64 j, .int .i64 j, .int .i64 0, .int .i64 L, .bool false]] w fun e w' => e = .returned (.tuple #[.agg (A.cells (V)), .int .i64 0]) ∧ Kept w w'))
    (CS : Hid (∀ w, Calls Try.prog 16 #[.agg (A.cells s), .int .u32 (s.r j.toNat)] w fun e w' => e = .returned (.agg (A.cells Z)) ∧ Kept w w')) :
    Calls Try.prog 9 #[.agg (A.cells s), .int .i32 n, .int .u8 k] w fun e w' => e = .returned (.bool true) ∧ Below w.heap.size w w' := by
  go_enter Try.func9, Try.ntmps9
  go_wp2_with fail
  refine (shown_any _).mono ?_; rintro e w1 ⟨rfl, hK1⟩
  have hS := ((Has.new (A.cells s) 25 w)).kept hK1
  have hK := ((Kept.refl w).alloc _ _).trans hK1
  clear hK1
  generalize hBe : w.heap.size = B at hS ⊢
  have hB : w.heap.size ≤ B := by omega
  clear hBe
  replace hS := Lib.hid hS
  replace hK := Lib.hid hK
  go_wp2_with (first
    | (with_reducible refine load_has (o := ⟨some 27, _, _, _, _, _⟩) rfl 25 _ rfl _ rfl hS.out Try.underlying25 rfl (A.info25 _) ?_))
  refine (C1.out _).mono ?_; rintro e w2 ⟨rfl, hK3⟩
  replace hS := Lib.hid (hS.out.kept hK3)
  replace hK := Lib.hid (hK.out.trans hK3)
  clear hK3
  go_upto_region 5 with (first
    | (with_reducible refine store_last (o := ⟨none, Op.store 25 (.tmp 10) _, _, _, _, _⟩) rfl 25 _ _ rfl _ _ rfl rfl rfl (A.info25 _) (by kernel_rfl) (A.one_cells _) ?_))
  replace hS := Lib.hid (hS.out.alloc (.cells (A.cells (X)) 25))
  replace hK := Lib.hid (hK.out.alloc (A.cells (X)) 25)
  have hX := Lib.hid (Has.new (A.cells (X)) 25 w2)
  generalize w2.heap.size = B10 at *
  generalize World.alloc w2 _ = w3 at *
  go_wp2_with (first
    | (with_reducible refine load_has (o := ⟨some 35, _, _, _, _, _⟩) rfl 25 _ rfl _ rfl hS.out Try.underlying25 rfl (A.info25 _) ?_))
  refine (C2.out _).mono ?_; rintro e w4 ⟨rfl, hK3⟩
  replace hS := Lib.hid (hS.out.kept hK3)
  replace hX := Lib.hid (hX.out.kept hK3)
  replace hK := Lib.hid (hK.out.trans hK3)
  clear hK3
  go_upto_region 6 with (first
    | (with_reducible refine store_last (o := ⟨none, Op.store 25 (.tmp 12) _, _, _, _, _⟩) rfl 25 _ _ rfl _ _ rfl rfl rfl (A.info25 _) (by kernel_rfl) (A.one_cells _) ?_))
  replace hS := Lib.hid (hS.out.alloc (.cells (A.cells (Y)) 25))
  replace hX := Lib.hid (hX.out.alloc (.cells (A.cells (Y)) 25))
  replace hK := Lib.hid (hK.out.alloc (A.cells (Y)) 25)
  have hY := Lib.hid (Has.new (A.cells (Y)) 25 w4)
  generalize w4.heap.size = B12 at *
  generalize World.alloc w4 _ = w5 at *
  go_wp2_with (first
    | (with_reducible refine load_has (o := ⟨some 44, _, _, _, _, _⟩) rfl 25 _ rfl _ rfl hS.out Try.underlying25 rfl (A.info25 _) ?_))
  refine (C3.out _).mono ?_; rintro e w6 ⟨rfl, hK3⟩
  replace hS := Lib.hid (hS.out.kept hK3)
  replace hX := Lib.hid (hX.out.kept hK3)
  replace hY := Lib.hid (hY.out.kept hK3)
  replace hK := Lib.hid (hK.out.trans hK3)
  clear hK3
  go_upto_region 7 with (first
    | (with_reducible refine store_last (o := ⟨none, Op.store 25 (.tmp 14) _, _, _, _, _⟩) rfl 25 _ _ rfl _ _ rfl rfl rfl (A.info25 _) (by kernel_rfl) (A.one_cells _) ?_))
  replace hS := Lib.hid (hS.out.alloc (.cells (A.cells (Z)) 25))
  replace hX := Lib.hid (hX.out.alloc (.cells (A.cells (Z)) 25))
  replace hY := Lib.hid (hY.out.alloc (.cells (A.cells (Z)) 25))
  replace hK := Lib.hid (hK.out.alloc (A.cells (Z)) 25)
  have hZ := Lib.hid (Has.new (A.cells (Z)) 25 w6)
  generalize w6.heap.size = B14 at *
  generalize World.alloc w6 _ = w7 at *
  go_wp2_with (first
    | (with_reducible refine load_has (o := ⟨some 52, _, _, _, _, _⟩) rfl 25 _ rfl _ rfl hY.out Try.underlying25 rfl (A.info25 _) ?_))
  refine (C4.out _).mono ?_; rintro e w8 ⟨rfl, hK3⟩
  replace hS := Lib.hid (hS.out.kept hK3)
  replace hX := Lib.hid (hX.out.kept hK3)
  replace hY := Lib.hid (hY.out.kept hK3)
  replace hZ := Lib.hid (hZ.out.kept hK3)
  replace hK := Lib.hid (hK.out.trans hK3)
  clear hK3
  go_upto_region 8 with (first
    | (with_reducible refine store_last (o := ⟨none, Op.store 25 (.tmp 16) _, _, _, _, _⟩) rfl 25 _ _ rfl _ _ rfl rfl rfl (A.info25 _) (by kernel_rfl) (A.one_cells _) ?_))
  replace hS := Lib.hid (hS.out.alloc (.cells (A.cells (V)) 25))
  replace hX := Lib.hid (hX.out.alloc (.cells (A.cells (V)) 25))
  replace hY := Lib.hid (hY.out.alloc (.cells (A.cells (V)) 25))
  replace hZ := Lib.hid (hZ.out.alloc (.cells (A.cells (V)) 25))
  replace hK := Lib.hid (hK.out.alloc (A.cells (V)) 25)
  have hV := Lib.hid (Has.new (A.cells (V)) 25 w8)
  generalize w8.heap.size = B16 at *
  generalize World.alloc w8 _ = w9 at *
  have hM0 : A.Mv s X Y Z V B B10 B12 B14 B16 w _ := ⟨hK.out, hS.out, hX.out, hY.out, hZ.out, hV.out⟩
  clear hK hS hX hY hZ hV
  simp only [List.append]
  refine seq_start (ops := OPS8) (S := A.Mv s X Y Z V B B10 B12 B14 B16 w) OPS8_size (by kernel_rfl) ?_ (fun hHeld => ?_)
  · exact hM0.step ((Kept.refl _).drew)
  refine seq_take 0 (oi := { dst := some 61, op := Op.move (Operand.tmp 7), type := 4, pos := "more.go:34", after := #[], guard := none }) (v := ?_) rfl OPS8_sel OPS8_g0 (by decide) (by decide) (fun _ _ _ h => h) (Or.inl ⟨rfl, ?_⟩) hHeld ?_
  rotate_left
  · (intro wz hSw; (try dsimp only at hSw); go_simp; try with_reducible rfl)
  try simp only [Act.put, List.setIfInBounds_toArray, List.set_cons_zero, List.set_cons_succ]
  refine seq_take 1 (oi := { dst := some 62, op := Op.move (Operand.tmp 61), type := 4, pos := "more.go:34", after := #[{ on := 0, ground := Ground.data }], guard := none }) (v := ?_) rfl OPS8_sel OPS8_g0 (by decide) (by decide) (fun _ _ _ h => h) (Or.inl ⟨rfl, ?_⟩) hHeld ?_
  rotate_left
  · (intro wz hSw; (try dsimp only at hSw); go_simp; try with_reducible rfl)
  try simp only [Act.put, List.setIfInBounds_toArray, List.set_cons_zero, List.set_cons_succ]
  refine seq_take 2 (oi := { dst := some 63, op := Op.move (Operand.tmp 11), type := 3, pos := "more.go:34", after := #[{ on := 1, ground := Ground.guard }], guard := some (1, true) }) (v := ?_) rfl OPS8_sel OPS8_g0 (by decide) (by decide) (fun _ _ _ h => h) (Or.inl ⟨rfl, ?_⟩) hHeld ?_
  rotate_left
  · (intro wz hSw; (try dsimp only at hSw); go_simp; try with_reducible rfl)
  try simp only [Act.put, List.setIfInBounds_toArray, List.set_cons_zero, List.set_cons_succ]
  refine seq_take 3 (oi := { dst := some 64, op := Op.binOp BinOp.eql 3 (Operand.tmp 63) (Operand.const (Value.int IntKind.i64 0)) 3, type := 4, pos := "more.go:34", after := #[{ on := 2, ground := Ground.data }, { on := 1, ground := Ground.guard }], guard := some (1, true) }) (v := ?_) rfl OPS8_sel OPS8_g0 (by decide) (by decide) (fun _ _ _ h => h) (Or.inl ⟨rfl, ?_⟩) hHeld ?_
  rotate_left
  · (intro wz hSw; (try dsimp only at hSw); go_simp; try with_reducible rfl)
  try simp only [Act.put, List.setIfInBounds_toArray, List.set_cons_zero, List.set_cons_succ]
  refine seq_take 4 (oi := { dst := some 65, op := Op.pick (Operand.tmp 62) (Operand.tmp 64) (Operand.const (Value.bool false)), type := 4, pos := "more.go:34", after := #[{ on := 1, ground := Ground.data }, { on := 3, ground := Ground.data }], guard := none }) (v := ?_) rfl OPS8_sel OPS8_g0 (by decide) (by decide) (fun _ _ _ h => h) (Or.inl ⟨rfl, ?_⟩) hHeld ?_
  rotate_left
  · (intro wz hSw; (try dsimp only at hSw); go_simp; try with_reducible rfl)
  try simp only [Act.put, List.setIfInBounds_toArray, List.set_cons_zero, List.set_cons_succ]
  refine seq_take 5 (oi := { dst := some 66, op := Op.move (Operand.tmp 65), type := 4, pos := "more.go:34", after := #[{ on := 4, ground := Ground.data }, { on := 1, ground := Ground.chain }], guard := none }) (v := ?_) rfl OPS8_sel OPS8_g0 (by decide) (by decide) (fun _ _ _ h => h) (Or.inl ⟨rfl, ?_⟩) hHeld ?_
  rotate_left
  · (intro wz hSw; (try dsimp only at hSw); go_simp; try with_reducible rfl)
  try simp only [Act.put, List.setIfInBounds_toArray, List.set_cons_zero, List.set_cons_succ]
  refine seq_take 6 (oi := { dst := some 67, op := Op.move (Operand.tmp 13), type := 3, pos := "more.go:34", after := #[{ on := 5, ground := Ground.guard }], guard := some (5, true) }) (v := ?_) rfl OPS8_sel OPS8_g0 (by decide) (by decide) (fun _ _ _ h => h) (Or.inl ⟨rfl, ?_⟩) hHeld ?_
  rotate_left
  · (intro wz hSw; (try dsimp only at hSw); go_simp; try with_reducible rfl)
  try simp only [Act.put, List.setIfInBounds_toArray, List.set_cons_zero, List.set_cons_succ]
  refine seq_take 7 (oi := { dst := some 68, op := Op.binOp BinOp.eql 3 (Operand.tmp 67) (Operand.const (Value.int IntKind.i64 0)) 3, type := 4, pos := "more.go:34", after := #[{ on := 6, ground := Ground.data }, { on := 5, ground := Ground.guard }], guard := some (5, true) }) (v := ?_) rfl OPS8_sel OPS8_g0 (by decide) (by decide) (fun _ _ _ h => h) (Or.inl ⟨rfl, ?_⟩) hHeld ?_
  rotate_left
  · (intro wz hSw; (try dsimp only at hSw); go_simp; try with_reducible rfl)
  try simp only [Act.put, List.setIfInBounds_toArray, List.set_cons_zero, List.set_cons_succ]
  refine seq_take 8 (oi := { dst := some 69, op := Op.pick (Operand.tmp 66) (Operand.tmp 68) (Operand.const (Value.bool false)), type := 4, pos := "more.go:34", after := #[{ on := 5, ground := Ground.data }, { on := 7, ground := Ground.data }], guard := none }) (v := ?_) rfl OPS8_sel OPS8_g1 (by decide) (by decide) (fun _ _ _ h => h) (Or.inl ⟨rfl, ?_⟩) hHeld ?_
  rotate_left
  · (intro wz hSw; (try dsimp only at hSw); go_simp; try with_reducible rfl)
  try simp only [Act.put, List.setIfInBounds_toArray, List.set_cons_zero, List.set_cons_succ]
  refine seq_take 9 (oi := { dst := some 70, op := Op.move (Operand.tmp 69), type := 4, pos := "more.go:34", after := #[{ on := 8, ground := Ground.data }, { on := 5, ground := Ground.chain }], guard := none }) (v := ?_) rfl OPS8_sel OPS8_g1 (by decide) (by decide) (fun _ _ _ h => h) (Or.inl ⟨rfl, ?_⟩) hHeld ?_
  rotate_left
  · (intro wz hSw; (try dsimp only at hSw); go_simp; try with_reducible rfl)
  try simp only [Act.put, List.setIfInBounds_toArray, List.set_cons_zero, List.set_cons_succ]
  refine seq_take 10 (oi := { dst := some 71, op := Op.move (Operand.tmp 15), type := 3, pos := "more.go:34", after := #[{ on := 9, ground := Ground.guard }], guard := some (9, true) }) (v := ?_) rfl OPS8_sel OPS8_g1 (by decide) (by decide) (fun _ _ _ h => h) (Or.inl ⟨rfl, ?_⟩) hHeld ?_
  rotate_left
  · (intro wz hSw; (try dsimp only at hSw); go_simp; try with_reducible rfl)
  try simp only [Act.put, List.setIfInBounds_toArray, List.set_cons_zero, List.set_cons_succ]
  refine seq_take 11 (oi := { dst := some 72, op := Op.binOp BinOp.eql 3 (Operand.tmp 71) (Operand.const (Value.int IntKind.i64 0)) 3, type := 4, pos := "more.go:34", after := #[{ on := 10, ground := Ground.data }, { on := 9, ground := Ground.guard }], guard := some (9, true) }) (v := ?_) rfl OPS8_sel OPS8_g1 (by decide) (by decide) (fun _ _ _ h => h) (Or.inl ⟨rfl, ?_⟩) hHeld ?_
  rotate_left
  · (intro wz hSw; (try dsimp only at hSw); go_simp; try with_reducible rfl)
  try simp only [Act.put, List.setIfInBounds_toArray, List.set_cons_zero, List.set_cons_succ]
  refine seq_take 12 (oi := { dst := some 73, op := Op.pick (Operand.tmp 70) (Operand.tmp 72) (Operand.const (Value.bool false)), type := 4, pos := "more.go:34", after := #[{ on := 9, ground := Ground.data }, { on := 11, ground := Ground.data }], guard := none }) (v := ?_) rfl OPS8_sel OPS8_g1 (by decide) (by decide) (fun _ _ _ h => h) (Or.inl ⟨rfl, ?_⟩) hHeld ?_
  rotate_left
  · (intro wz hSw; (try dsimp only at hSw); go_simp; try with_reducible rfl)
  try simp only [Act.put, List.setIfInBounds_toArray, List.set_cons_zero, List.set_cons_succ]
  refine seq_take 13 (oi := { dst := some 74, op := Op.move (Operand.tmp 73), type := 4, pos := "more.go:34", after := #[{ on := 12, ground := Ground.data }, { on := 9, ground := Ground.chain }], guard := none }) (v := ?_) rfl OPS8_sel OPS8_g1 (by decide) (by decide) (fun _ _ _ h => h) (Or.inl ⟨rfl, ?_⟩) hHeld ?_
  rotate_left
  · (intro wz hSw; (try dsimp only at hSw); go_simp; try with_reducible rfl)
  try simp only [Act.put, List.setIfInBounds_toArray, List.set_cons_zero, List.set_cons_succ]
  refine seq_take 14 (oi := { dst := some 75, op := Op.move (Operand.tmp 17), type := 3, pos := "more.go:34", after := #[{ on := 13, ground := Ground.guard }], guard := some (13, true) }) (v := ?_) rfl OPS8_sel OPS8_g1 (by decide) (by decide) (fun _ _ _ h => h) (Or.inl ⟨rfl, ?_⟩) hHeld ?_
  rotate_left
  · (intro wz hSw; (try dsimp only at hSw); go_simp; try with_reducible rfl)
  try simp only [Act.put, List.setIfInBounds_toArray, List.set_cons_zero, List.set_cons_succ]
  refine seq_take 15 (oi := { dst := some 76, op := Op.binOp BinOp.eql 3 (Operand.tmp 75) (Operand.const (Value.int IntKind.i64 0)) 3, type := 4, pos := "more.go:34", after := #[{ on := 14, ground := Ground.data }, { on := 13, ground := Ground.guard }], guard := some (13, true) }) (v := ?_) rfl OPS8_sel OPS8_g1 (by decide) (by decide) (fun _ _ _ h => h) (Or.inl ⟨rfl, ?_⟩) hHeld ?_
  rotate_left
  · (intro wz hSw; (try dsimp only at hSw); go_simp; try with_reducible rfl)
  try simp only [Act.put, List.setIfInBounds_toArray, List.set_cons_zero, List.set_cons_succ]
  refine seq_take 16 (oi := { dst := some 77, op := Op.pick (Operand.tmp 74) (Operand.tmp 76) (Operand.const (Value.bool false)), type := 4, pos := "more.go:34", after := #[{ on := 13, ground := Ground.data }, { on := 15, ground := Ground.data }], guard := none }) (v := ?_) rfl OPS8_sel OPS8_g2 (by decide) (by decide) (fun _ _ _ h => h) (Or.inl ⟨rfl, ?_⟩) hHeld ?_
  rotate_left
  · (intro wz hSw; (try dsimp only at hSw); go_simp; try with_reducible rfl)
  try simp only [Act.put, List.setIfInBounds_toArray, List.set_cons_zero, List.set_cons_succ]
  refine seq_take 17 (oi := { dst := some 78, op := Op.move (Operand.tmp 77), type := 4, pos := "more.go:34", after := #[{ on := 16, ground := Ground.data }, { on := 13, ground := Ground.chain }], guard := none }) (v := ?_) rfl OPS8_sel OPS8_g2 (by decide) (by decide) (fun _ _ _ h => h) (Or.inl ⟨rfl, ?_⟩) hHeld ?_
  rotate_left
  · (intro wz hSw; (try dsimp only at hSw); go_simp; try with_reducible rfl)
  try simp only [Act.put, List.setIfInBounds_toArray, List.set_cons_zero, List.set_cons_succ]
  refine seq_take 18 (oi := { dst := some 79, op := Op.move (Operand.tmp 9), type := 3, pos := "more.go:34", after := #[{ on := 17, ground := Ground.guard }], guard := some (17, true) }) (v := ?_) rfl OPS8_sel OPS8_g2 (by decide) (by decide) (fun _ _ _ h => h) (Or.inl ⟨rfl, ?_⟩) hHeld ?_
  rotate_left
  · (intro wz hSw; (try dsimp only at hSw); go_simp; try with_reducible rfl)
  try simp only [Act.put, List.setIfInBounds_toArray, List.set_cons_zero, List.set_cons_succ]
  refine seq_take 19 (oi := { dst := some 80, op := Op.fieldAddr 25 (Operand.tmp 10) 0, type := 0, pos := "more.go:34", after := #[{ on := 17, ground := Ground.guard }], guard := some (17, true) }) (v := ?_) rfl OPS8_sel OPS8_g2 (by decide) (by decide) (fun _ _ _ h => h) (Or.inl ⟨rfl, ?_⟩) hHeld ?_
  rotate_left
  · (intro wz hSw; (try dsimp only at hSw); go_simp; try with_reducible rfl)
  try simp only [Act.put, List.setIfInBounds_toArray, List.set_cons_zero, List.set_cons_succ]
  refine seq_take 20 (oi := { dst := some 81, op := Op.indexAddr 23 (Operand.tmp 80) (Operand.tmp 79), type := 0, pos := "more.go:34", after := #[{ on := 19, ground := Ground.data }, { on := 18, ground := Ground.data }, { on := 17, ground := Ground.guard }], guard := some (17, true) }) (v := ?_) rfl OPS8_sel OPS8_g2 (by decide) (by decide) (fun _ _ _ h => h) (Or.inl ⟨rfl, ?_⟩) hHeld ?_
  rotate_left
  · (intro wz hSw; (try dsimp only at hSw); go_simp; try with_reducible rfl)
  try simp only [Act.put, List.setIfInBounds_toArray, List.set_cons_zero, List.set_cons_succ]
  refine seq_take 21 (oi := { dst := some 82, op := Op.load 22 (Operand.tmp 81), type := 22, pos := "more.go:34", after := #[{ on := 20, ground := Ground.data }, { on := 17, ground := Ground.guard }], guard := some (17, true) }) (v := ?_) rfl OPS8_sel OPS8_g2 (by decide) (by decide) (fun _ _ _ h => h) (Or.inl ⟨rfl, ?_⟩) hHeld ?_
  rotate_left
  · (intro wz hSw; (try dsimp only at hSw); have q := hSw.hX.cell j.toNat _ (A.cell_r X j.toNat (by omega)); rw [eX] at q; go_simp; try with_reducible rfl)
  try simp only [Act.put, List.setIfInBounds_toArray, List.set_cons_zero, List.set_cons_succ]
  refine seq_take 22 (oi := { dst := some 83, op := Op.move (Operand.tmp 8), type := 3, pos := "more.go:34", after := #[{ on := 17, ground := Ground.guard }], guard := some (17, true) }) (v := ?_) rfl OPS8_sel OPS8_g2 (by decide) (by decide) (fun _ _ _ h => h) (Or.inl ⟨rfl, ?_⟩) hHeld ?_
  rotate_left
  · (intro wz hSw; (try dsimp only at hSw); go_simp; try with_reducible rfl)
  try simp only [Act.put, List.setIfInBounds_toArray, List.set_cons_zero, List.set_cons_succ]
  refine seq_take 23 (oi := { dst := some 84, op := Op.convert 3 22 (Operand.tmp 83), type := 22, pos := "more.go:34", after := #[{ on := 22, ground := Ground.data }, { on := 17, ground := Ground.guard }], guard := some (17, true) }) (v := ?_) rfl OPS8_sel OPS8_g2 (by decide) (by decide) (fun _ _ _ h => h) (Or.inl ⟨rfl, ?_⟩) hHeld ?_
  rotate_left
  · (intro wz hSw; (try dsimp only at hSw); go_simp; try with_reducible rfl)
  try simp only [Act.put, List.setIfInBounds_toArray, List.set_cons_zero, List.set_cons_succ]
  refine seq_take 24 (oi := { dst := some 85, op := Op.binOp BinOp.eql 22 (Operand.tmp 82) (Operand.tmp 84) 22, type := 4, pos := "more.go:34", after := #[{ on := 21, ground := Ground.data }, { on := 23, ground := Ground.data }, { on := 17, ground := Ground.guard }], guard := some (17, true) }) (v := ?_) rfl OPS8_sel OPS8_g3 (by decide) (by decide) (fun _ _ _ h => h) (Or.inl ⟨rfl, ?_⟩) hHeld ?_
  rotate_left
  · (intro wz hSw; (try dsimp only at hSw); go_simp; try with_reducible rfl)
  try simp only [Act.put, List.setIfInBounds_toArray, List.set_cons_zero, List.set_cons_succ]
  refine seq_take 25 (oi := { dst := some 86, op := Op.pick (Operand.tmp 78) (Operand.tmp 85) (Operand.const (Value.bool false)), type := 4, pos := "more.go:34", after := #[{ on := 17, ground := Ground.data }, { on := 24, ground := Ground.data }], guard := none }) (v := ?_) rfl OPS8_sel OPS8_g3 (by decide) (by decide) (fun _ _ _ h => h) (Or.inl ⟨rfl, ?_⟩) hHeld ?_
  rotate_left
  · (intro wz hSw; (try dsimp only at hSw); go_simp; try with_reducible rfl)
  try simp only [Act.put, List.setIfInBounds_toArray, List.set_cons_zero, List.set_cons_succ]
  refine seq_take 26 (oi := { dst := some 87, op := Op.move (Operand.tmp 86), type := 4, pos := "more.go:34", after := #[{ on := 25, ground := Ground.data }, { on := 17, ground := Ground.chain }], guard := none }) (v := ?_) rfl OPS8_sel OPS8_g3 (by decide) (by decide) (fun _ _ _ h => h) (Or.inl ⟨rfl, ?_⟩) hHeld ?_
  rotate_left
  · (intro wz hSw; (try dsimp only at hSw); go_simp; try with_reducible rfl)
  try simp only [Act.put, List.setIfInBounds_toArray, List.set_cons_zero, List.set_cons_succ]
  refine seq_take 27 (oi := { dst := some 88, op := Op.fieldAddr 25 (Operand.tmp 10) 2, type := 0, pos := "more.go:34", after := #[{ on := 26, ground := Ground.guard }], guard := some (26, true) }) (v := ?_) rfl OPS8_sel OPS8_g3 (by decide) (by decide) (fun _ _ _ h => h) (Or.inl ⟨rfl, ?_⟩) hHeld ?_
  rotate_left
  · (intro wz hSw; (try dsimp only at hSw); go_simp; try with_reducible rfl)
  try simp only [Act.put, List.setIfInBounds_toArray, List.set_cons_zero, List.set_cons_succ]
  refine seq_take 28 (oi := { dst := some 89, op := Op.load 4 (Operand.tmp 88), type := 4, pos := "more.go:34", after := #[{ on := 27, ground := Ground.data }, { on := 26, ground := Ground.guard }], guard := some (26, true) }) (v := ?_) rfl OPS8_sel OPS8_g3 (by decide) (by decide) (fun _ _ _ h => h) (Or.inl ⟨rfl, ?_⟩) hHeld ?_
  rotate_left
  · (intro wz hSw; (try dsimp only at hSw); have q := hSw.hX.cell 17 _ (A.cell_n X); rw [eN] at q; go_simp; try with_reducible rfl)
  try simp only [Act.put, List.setIfInBounds_toArray, List.set_cons_zero, List.set_cons_succ]
  refine seq_take 29 (oi := { dst := some 90, op := Op.move (Operand.tmp 8), type := 3, pos := "more.go:34", after := #[{ on := 26, ground := Ground.guard }], guard := some (26, true) }) (v := ?_) rfl OPS8_sel OPS8_g3 (by decide) (by decide) (fun _ _ _ h => h) (Or.inl ⟨rfl, ?_⟩) hHeld ?_
  rotate_left
  · (intro wz hSw; (try dsimp only at hSw); go_simp; try with_reducible rfl)
  try simp only [Act.put, List.setIfInBounds_toArray, List.set_cons_zero, List.set_cons_succ]
  refine seq_take 30 (oi := { dst := some 91, op := Op.binOp BinOp.lss 3 (Operand.tmp 90) (Operand.const (Value.int IntKind.i64 0)) 3, type := 4, pos := "more.go:34", after := #[{ on := 29, ground := Ground.data }, { on := 26, ground := Ground.guard }], guard := some (26, true) }) (v := ?_) rfl OPS8_sel OPS8_g3 (by decide) (by decide) (fun _ _ _ h => h) (Or.inl ⟨rfl, ?_⟩) hHeld ?_
  rotate_left
  · (intro wz hSw; (try dsimp only at hSw); go_simp; try with_reducible rfl)
  try simp only [Act.put, List.setIfInBounds_toArray, List.set_cons_zero, List.set_cons_succ]
  refine seq_take 31 (oi := { dst := some 92, op := Op.binOp BinOp.eql 4 (Operand.tmp 89) (Operand.tmp 91) 4, type := 4, pos := "more.go:34", after := #[{ on := 28, ground := Ground.data }, { on := 30, ground := Ground.data }, { on := 26, ground := Ground.guard }], guard := some (26, true) }) (v := ?_) rfl OPS8_sel OPS8_g3 (by decide) (by decide) (fun _ _ _ h => h) (Or.inl ⟨rfl, ?_⟩) hHeld ?_
  rotate_left
  · (intro wz hSw; (try dsimp only at hSw); go_simp; try with_reducible rfl)
  try simp only [Act.put, List.setIfInBounds_toArray, List.set_cons_zero, List.set_cons_succ]
  refine seq_take 32 (oi := { dst := some 93, op := Op.pick (Operand.tmp 87) (Operand.tmp 92) (Operand.const (Value.bool false)), type := 4, pos := "more.go:34", after := #[{ on := 26, ground := Ground.data }, { on := 31, ground := Ground.data }], guard := none }) (v := ?_) rfl OPS8_sel OPS8_g4 (by decide) (by decide) (fun _ _ _ h => h) (Or.inl ⟨rfl, ?_⟩) hHeld ?_
  rotate_left
  · (intro wz hSw; (try dsimp only at hSw); go_simp; try with_reducible rfl)
  try simp only [Act.put, List.setIfInBounds_toArray, List.set_cons_zero, List.set_cons_succ]
  refine seq_take 33 (oi := { dst := some 94, op := Op.move (Operand.tmp 93), type := 4, pos := "more.go:34", after := #[{ on := 32, ground := Ground.data }, { on := 26, ground := Ground.chain }], guard := none }) (v := ?_) rfl OPS8_sel OPS8_g4 (by decide) (by decide) (fun _ _ _ h => h) (Or.inl ⟨rfl, ?_⟩) hHeld ?_
  rotate_left
  · (intro wz hSw; (try dsimp only at hSw); go_simp; try with_reducible rfl)
  try simp only [Act.put, List.setIfInBounds_toArray, List.set_cons_zero, List.set_cons_succ]
  refine seq_take 34 (oi := { dst := some 95, op := Op.fieldAddr 25 (Operand.tmp 10) 3, type := 0, pos := "more.go:34", after := #[{ on := 33, ground := Ground.guard }], guard := some (33, true) }) (v := ?_) rfl OPS8_sel OPS8_g4 (by decide) (by decide) (fun _ _ _ h => h) (Or.inl ⟨rfl, ?_⟩) hHeld ?_
  rotate_left
  · (intro wz hSw; (try dsimp only at hSw); go_simp; try with_reducible rfl)
  try simp only [Act.put, List.setIfInBounds_toArray, List.set_cons_zero, List.set_cons_succ]
  refine seq_take 35 (oi := { dst := some 96, op := Op.load 4 (Operand.tmp 95), type := 4, pos := "more.go:34", after := #[{ on := 34, ground := Ground.data }, { on := 33, ground := Ground.guard }], guard := some (33, true) }) (v := ?_) rfl OPS8_sel OPS8_g4 (by decide) (by decide) (fun _ _ _ h => h) (Or.inl ⟨rfl, ?_⟩) hHeld ?_
  rotate_left
  · (intro wz hSw; (try dsimp only at hSw); have q := hSw.hX.cell 18 _ (A.cell_z X); rw [eZ] at q; go_simp; try with_reducible rfl)
  try simp only [Act.put, List.setIfInBounds_toArray, List.set_cons_zero, List.set_cons_succ]
  refine seq_take 36 (oi := { dst := some 97, op := Op.move (Operand.tmp 8), type := 3, pos := "more.go:34", after := #[{ on := 33, ground := Ground.guard }], guard := some (33, true) }) (v := ?_) rfl OPS8_sel OPS8_g4 (by decide) (by decide) (fun _ _ _ h => h) (Or.inl ⟨rfl, ?_⟩) hHeld ?_
  rotate_left
  · (intro wz hSw; (try dsimp only at hSw); go_simp; try with_reducible rfl)
  try simp only [Act.put, List.setIfInBounds_toArray, List.set_cons_zero, List.set_cons_succ]
  refine seq_take 37 (oi := { dst := some 98, op := Op.binOp BinOp.eql 3 (Operand.tmp 97) (Operand.const (Value.int IntKind.i64 0)) 3, type := 4, pos := "more.go:34", after := #[{ on := 36, ground := Ground.data }, { on := 33, ground := Ground.guard }], guard := some (33, true) }) (v := ?_) rfl OPS8_sel OPS8_g4 (by decide) (by decide) (fun _ _ _ h => h) (Or.inl ⟨rfl, ?_⟩) hHeld ?_
  rotate_left
  · (intro wz hSw; (try dsimp only at hSw); go_simp; try with_reducible rfl)
  try simp only [Act.put, List.setIfInBounds_toArray, List.set_cons_zero, List.set_cons_succ]
  refine seq_take 38 (oi := { dst := some 99, op := Op.binOp BinOp.eql 4 (Operand.tmp 96) (Operand.tmp 98) 4, type := 4, pos := "more.go:34", after := #[{ on := 35, ground := Ground.data }, { on := 37, ground := Ground.data }, { on := 33, ground := Ground.guard }], guard := some (33, true) }) (v := ?_) rfl OPS8_sel OPS8_g4 (by decide) (by decide) (fun _ _ _ h => h) (Or.inl ⟨rfl, ?_⟩) hHeld ?_
  rotate_left
  · (intro wz hSw; (try dsimp only at hSw); go_simp; try with_reducible rfl)
  try simp only [Act.put, List.setIfInBounds_toArray, List.set_cons_zero, List.set_cons_succ]
  refine seq_take 39 (oi := { dst := some 100, op := Op.pick (Operand.tmp 94) (Operand.tmp 99) (Operand.const (Value.bool false)), type := 4, pos := "more.go:34", after := #[{ on := 33, ground := Ground.data }, { on := 38, ground := Ground.data }], guard := none }) (v := ?_) rfl OPS8_sel OPS8_g4 (by decide) (by decide) (fun _ _ _ h => h) (Or.inl ⟨rfl, ?_⟩) hHeld ?_
  rotate_left
  · (intro wz hSw; (try dsimp only at hSw); go_simp; try with_reducible rfl)
  try simp only [Act.put, List.setIfInBounds_toArray, List.set_cons_zero, List.set_cons_succ]
  refine seq_take 40 (oi := { dst := some 101, op := Op.move (Operand.tmp 100), type := 4, pos := "more.go:34", after := #[{ on := 39, ground := Ground.data }, { on := 33, ground := Ground.chain }], guard := none }) (v := ?_) rfl OPS8_sel OPS8_g5 (by decide) (by decide) (fun _ _ _ h => h) (Or.inl ⟨rfl, ?_⟩) hHeld ?_
  rotate_left
  · (intro wz hSw; (try dsimp only at hSw); go_simp; try with_reducible rfl)
  try simp only [Act.put, List.setIfInBounds_toArray, List.set_cons_zero, List.set_cons_succ]
  refine seq_take 41 (oi := { dst := some 102, op := Op.move (Operand.tmp 9), type := 3, pos := "more.go:34", after := #[{ on := 40, ground := Ground.guard }], guard := some (40, true) }) (v := ?_) rfl OPS8_sel OPS8_g5 (by decide) (by decide) (fun _ _ _ h => h) (Or.inl ⟨rfl, ?_⟩) hHeld ?_
  rotate_left
  · (intro wz hSw; (try dsimp only at hSw); go_simp; try with_reducible rfl)
  try simp only [Act.put, List.setIfInBounds_toArray, List.set_cons_zero, List.set_cons_succ]
  refine seq_take 42 (oi := { dst := some 103, op := Op.fieldAddr 25 (Operand.tmp 12) 0, type := 0, pos := "more.go:34", after := #[{ on := 40, ground := Ground.guard }], guard := some (40, true) }) (v := ?_) rfl OPS8_sel OPS8_g5 (by decide) (by decide) (fun _ _ _ h => h) (Or.inl ⟨rfl, ?_⟩) hHeld ?_
  rotate_left
  · (intro wz hSw; (try dsimp only at hSw); go_simp; try with_reducible rfl)
  try simp only [Act.put, List.setIfInBounds_toArray, List.set_cons_zero, List.set_cons_succ]
  refine seq_take 43 (oi := { dst := some 104, op := Op.indexAddr 23 (Operand.tmp 103) (Operand.tmp 102), type := 0, pos := "more.go:34", after := #[{ on := 42, ground := Ground.data }, { on := 41, ground := Ground.data }, { on := 40, ground := Ground.guard }], guard := some (40, true) }) (v := ?_) rfl OPS8_sel OPS8_g5 (by decide) (by decide) (fun _ _ _ h => h) (Or.inl ⟨rfl, ?_⟩) hHeld ?_
  rotate_left
  · (intro wz hSw; (try dsimp only at hSw); go_simp; try with_reducible rfl)
  try simp only [Act.put, List.setIfInBounds_toArray, List.set_cons_zero, List.set_cons_succ]
  refine seq_take 44 (oi := { dst := some 105, op := Op.load 22 (Operand.tmp 104), type := 22, pos := "more.go:34", after := #[{ on := 43, ground := Ground.data }, { on := 40, ground := Ground.guard }], guard := some (40, true) }) (v := ?_) rfl OPS8_sel OPS8_g5 (by decide) (by decide) (fun _ _ _ h => h) (Or.inl ⟨rfl, ?_⟩) hHeld ?_
  rotate_left
  · (intro wz hSw; (try dsimp only at hSw); have q := hSw.hY.cell j.toNat _ (A.cell_r Y j.toNat (by omega)); rw [eY] at q; go_simp; try with_reducible rfl)
  try simp only [Act.put, List.setIfInBounds_toArray, List.set_cons_zero, List.set_cons_succ]
  refine seq_take 45 (oi := { dst := some 106, op := Op.move (Operand.tmp 8), type := 3, pos := "more.go:34", after := #[{ on := 40, ground := Ground.guard }], guard := some (40, true) }) (v := ?_) rfl OPS8_sel OPS8_g5 (by decide) (by decide) (fun _ _ _ h => h) (Or.inl ⟨rfl, ?_⟩) hHeld ?_
  rotate_left
  · (intro wz hSw; (try dsimp only at hSw); go_simp; try with_reducible rfl)
  try simp only [Act.put, List.setIfInBounds_toArray, List.set_cons_zero, List.set_cons_succ]
  refine seq_take 46 (oi := { dst := some 107, op := Op.binOp BinOp.and 3 (Operand.tmp 106) (Operand.const (Value.int IntKind.i64 65535)) 3, type := 3, pos := "more.go:34", after := #[{ on := 45, ground := Ground.data }, { on := 40, ground := Ground.guard }], guard := some (40, true) }) (v := ?_) rfl OPS8_sel OPS8_g5 (by decide) (by decide) (fun _ _ _ h => h) (Or.inl ⟨rfl, ?_⟩) hHeld ?_
  rotate_left
  · (intro wz hSw; (try dsimp only at hSw); go_simp; try with_reducible rfl)
  try simp only [Act.put, List.setIfInBounds_toArray, List.set_cons_zero, List.set_cons_succ]
  refine seq_take 47 (oi := { dst := some 108, op := Op.convert 3 22 (Operand.tmp 107), type := 22, pos := "more.go:34", after := #[{ on := 46, ground := Ground.data }, { on := 40, ground := Ground.guard }], guard := some (40, true) }) (v := ?_) rfl OPS8_sel OPS8_g5 (by decide) (by decide) (fun _ _ _ h => h) (Or.inl ⟨rfl, ?_⟩) hHeld ?_
  rotate_left
  · (intro wz hSw; (try dsimp only at hSw); go_simp; try with_reducible rfl)
  try simp only [Act.put, List.setIfInBounds_toArray, List.set_cons_zero, List.set_cons_succ]
  refine seq_take 48 (oi := { dst := some 109, op := Op.binOp BinOp.shl 22 (Operand.tmp 108) (Operand.const (Value.int IntKind.u64 16)) 40, type := 22, pos := "more.go:34", after := #[{ on := 47, ground := Ground.data }, { on := 40, ground := Ground.guard }], guard := some (40, true) }) (v := ?_) rfl OPS8_sel OPS8_g6 (by decide) (by decide) (fun _ _ _ h => h) (Or.inl ⟨rfl, ?_⟩) hHeld ?_
  rotate_left
  · (intro wz hSw; (try dsimp only at hSw); go_simp; try with_reducible rfl)
  try simp only [Act.put, List.setIfInBounds_toArray, List.set_cons_zero, List.set_cons_succ]
  refine seq_take 49 (oi := { dst := some 110, op := Op.binOp BinOp.eql 22 (Operand.tmp 105) (Operand.tmp 109) 22, type := 4, pos := "more.go:34", after := #[{ on := 44, ground := Ground.data }, { on := 48, ground := Ground.data }, { on := 40, ground := Ground.guard }], guard := some (40, true) }) (v := ?_) rfl OPS8_sel OPS8_g6 (by decide) (by decide) (fun _ _ _ h => h) (Or.inl ⟨rfl, ?_⟩) hHeld ?_
  rotate_left
  · (intro wz hSw; (try dsimp only at hSw); go_simp; try with_reducible rfl)
  try simp only [Act.put, List.setIfInBounds_toArray, List.set_cons_zero, List.set_cons_succ]
  refine seq_take 50 (oi := { dst := some 111, op := Op.pick (Operand.tmp 101) (Operand.tmp 110) (Operand.const (Value.bool false)), type := 4, pos := "more.go:34", after := #[{ on := 40, ground := Ground.data }, { on := 49, ground := Ground.data }], guard := none }) (v := ?_) rfl OPS8_sel OPS8_g6 (by decide) (by decide) (fun _ _ _ h => h) (Or.inl ⟨rfl, ?_⟩) hHeld ?_
  rotate_left
  · (intro wz hSw; (try dsimp only at hSw); go_simp; try with_reducible rfl)
  try simp only [Act.put, List.setIfInBounds_toArray, List.set_cons_zero, List.set_cons_succ]
  refine seq_take 51 (oi := { dst := some 112, op := Op.move (Operand.tmp 111), type := 4, pos := "more.go:34", after := #[{ on := 50, ground := Ground.data }, { on := 40, ground := Ground.chain }], guard := none }) (v := ?_) rfl OPS8_sel OPS8_g6 (by decide) (by decide) (fun _ _ _ h => h) (Or.inl ⟨rfl, ?_⟩) hHeld ?_
  rotate_left
  · (intro wz hSw; (try dsimp only at hSw); go_simp; try with_reducible rfl)
  try simp only [Act.put, List.setIfInBounds_toArray, List.set_cons_zero, List.set_cons_succ]
  refine seq_take 52 (oi := { dst := some 113, op := Op.load 25 (Operand.tmp 14), type := 25, pos := "more.go:34", after := #[{ on := 51, ground := Ground.guard }], guard := some (51, true) }) (v := ?_) rfl OPS8_sel OPS8_g6 (by decide) (by decide) (fun _ _ _ h => h) (Or.inl ⟨rfl, ?_⟩) hHeld ?_
  rotate_left
  · (intro wz hSw; refine exec_load_has 25 (Operand.tmp 14) ?_ _ ?_ hSw.hZ Try.underlying25 rfl (A.info25 _) <;> rfl)
  try simp only [Act.put, List.setIfInBounds_toArray, List.set_cons_zero, List.set_cons_succ]
  refine seq_take 53 (oi := { dst := some 114, op := Op.load 25 (Operand.tmp 3), type := 25, pos := "more.go:34", after := #[{ on := 51, ground := Ground.guard }], guard := some (51, true) }) (v := ?_) rfl OPS8_sel OPS8_g6 (by decide) (by decide) (fun _ _ _ h => h) (Or.inl ⟨rfl, ?_⟩) hHeld ?_
  rotate_left
  · (intro wz hSw; refine exec_load_has 25 (Operand.tmp 3) ?_ _ ?_ hSw.hS Try.underlying25 rfl (A.info25 _) <;> rfl)
  try simp only [Act.put, List.setIfInBounds_toArray, List.set_cons_zero, List.set_cons_succ]
  refine seq_take 54 (oi := { dst := some 115, op := Op.move (Operand.tmp 9), type := 3, pos := "more.go:34", after := #[{ on := 51, ground := Ground.guard }], guard := some (51, true) }) (v := ?_) rfl OPS8_sel OPS8_g6 (by decide) (by decide) (fun _ _ _ h => h) (Or.inl ⟨rfl, ?_⟩) hHeld ?_
  rotate_left
  · (intro wz hSw; (try dsimp only at hSw); go_simp; try with_reducible rfl)
  try simp only [Act.put, List.setIfInBounds_toArray, List.set_cons_zero, List.set_cons_succ]
  refine seq_take 55 (oi := { dst := some 116, op := Op.fieldAddr 25 (Operand.tmp 3) 0, type := 0, pos := "more.go:34", after := #[{ on := 51, ground := Ground.guard }], guard := some (51, true) }) (v := ?_) rfl OPS8_sel OPS8_g6 (by decide) (by decide) (fun _ _ _ h => h) (Or.inl ⟨rfl, ?_⟩) hHeld ?_
  rotate_left
  · (intro wz hSw; (try dsimp only at hSw); go_simp; try with_reducible rfl)
  try simp only [Act.put, List.setIfInBounds_toArray, List.set_cons_zero, List.set_cons_succ]
  refine seq_take 56 (oi := { dst := some 117, op := Op.indexAddr 23 (Operand.tmp 116) (Operand.tmp 115), type := 0, pos := "more.go:34", after := #[{ on := 55, ground := Ground.data }, { on := 54, ground := Ground.data }, { on := 51, ground := Ground.guard }], guard := some (51, true) }) (v := ?_) rfl OPS8_sel OPS8_g7 (by decide) (by decide) (fun _ _ _ h => h) (Or.inl ⟨rfl, ?_⟩) hHeld ?_
  rotate_left
  · (intro wz hSw; (try dsimp only at hSw); go_simp; try with_reducible rfl)
  try simp only [Act.put, List.setIfInBounds_toArray, List.set_cons_zero, List.set_cons_succ]
  refine seq_take 57 (oi := { dst := some 118, op := Op.load 22 (Operand.tmp 117), type := 22, pos := "more.go:34", after := #[{ on := 56, ground := Ground.data }, { on := 51, ground := Ground.guard }], guard := some (51, true) }) (v := ?_) rfl OPS8_sel OPS8_g7 (by decide) (by decide) (fun _ _ _ h => h) (Or.inl ⟨rfl, ?_⟩) hHeld ?_
  rotate_left
  · (intro wz hSw; (try dsimp only at hSw); have q := hSw.hS.cell j.toNat _ (A.cell_r s j.toNat (by omega)); go_simp; try with_reducible rfl)
  try simp only [Act.put, List.setIfInBounds_toArray, List.set_cons_zero, List.set_cons_succ]
  refine wpAnyH_ready (rs := [58]) (by kernel_rfl) (by simp) ?_
  refine AllReadyH.cons (o := { dst := some 119, op := Op.call { callee := Callee.value (Operand.func 16), args := #[Operand.tmp 114, Operand.tmp 118], argTypes := #[25, 22] }, type := 25, pos := "more.go:34", after := #[{ on := 53, ground := Ground.data }, { on := 57, ground := Ground.data }, { on := 51, ground := Ground.chain }, { on := 51, ground := Ground.guard }], guard := some (51, true) }) rfl (fun K hK => ?_) AllReadyH.nil
  rw [if_pos (by rfl)]
  go_simp
  go_at_call 16
  refine (CS.out _).mono ?_
  rintro e w5 ⟨rfl, hK5⟩
  have hN := (show (A.Mv s X Y Z V B B10 B12 B14 B16 w) _ from hHeld.step hK5)
  clear hHeld
  refine hK.out _ _ hN (fun hHeld => ?_)
  rw [LS_set]
  clear hK K hN
  try simp only [Act.put, List.setIfInBounds_toArray, List.set_cons_zero, List.set_cons_succ]
  refine seq_take 59 (oi := { dst := some 120, op := Op.binOp BinOp.eql 25 (Operand.tmp 113) (Operand.tmp 119) 25, type := 4, pos := "more.go:34", after := #[{ on := 52, ground := Ground.data }, { on := 58, ground := Ground.data }, { on := 51, ground := Ground.guard }], guard := some (51, true) }) (v := ?_) rfl OPS8_sel OPS8_g8 (by decide) (by decide) (fun _ _ _ h => h) (Or.inl ⟨rfl, ?_⟩) hHeld ?_
  rotate_left
  · (intro wz hSw; refine exec_eq_regs (o := { dst := some 120, op := Op.binOp BinOp.eql 25 (Operand.tmp 113) (Operand.tmp 119) 25, type := 4, pos := "more.go:34", after := #[{ on := 52, ground := Ground.data }, { on := 58, ground := Ground.data }, { on := 51, ground := Ground.guard }], guard := some (51, true) }) (.tmp 113) (.tmp 119) rfl Z ?_ ?_ <;> rfl)
  try simp only [Act.put, List.setIfInBounds_toArray, List.set_cons_zero, List.set_cons_succ]
  refine seq_take 60 (oi := { dst := some 121, op := Op.pick (Operand.tmp 112) (Operand.tmp 120) (Operand.const (Value.bool false)), type := 4, pos := "more.go:34", after := #[{ on := 51, ground := Ground.data }, { on := 59, ground := Ground.data }], guard := none }) (v := ?_) rfl OPS8_sel OPS8_g8 (by decide) (by decide) (fun _ _ _ h => h) (Or.inl ⟨rfl, ?_⟩) hHeld ?_
  rotate_left
  · (intro wz hSw; (try dsimp only at hSw); go_simp; try with_reducible rfl)
  try simp only [Act.put, List.setIfInBounds_toArray, List.set_cons_zero, List.set_cons_succ]
  refine seq_take 61 (oi := { dst := some 122, op := Op.move (Operand.tmp 121), type := 4, pos := "more.go:34", after := #[{ on := 60, ground := Ground.data }, { on := 58, ground := Ground.chain }], guard := none }) (v := ?_) rfl OPS8_sel OPS8_g8 (by decide) (by decide) (fun _ _ _ h => h) (Or.inl ⟨rfl, ?_⟩) hHeld ?_
  rotate_left
  · (intro wz hSw; (try dsimp only at hSw); go_simp; try with_reducible rfl)
  try simp only [Act.put, List.setIfInBounds_toArray, List.set_cons_zero, List.set_cons_succ]
  refine seq_take 62 (oi := { dst := some 123, op := Op.move (Operand.tmp 9), type := 3, pos := "more.go:34", after := #[{ on := 61, ground := Ground.guard }], guard := some (61, true) }) (v := ?_) rfl OPS8_sel OPS8_g8 (by decide) (by decide) (fun _ _ _ h => h) (Or.inl ⟨rfl, ?_⟩) hHeld ?_
  rotate_left
  · (intro wz hSw; (try dsimp only at hSw); go_simp; try with_reducible rfl)
  try simp only [Act.put, List.setIfInBounds_toArray, List.set_cons_zero, List.set_cons_succ]
  refine seq_take 63 (oi := { dst := some 124, op := Op.fieldAddr 25 (Operand.tmp 16) 0, type := 0, pos := "more.go:34", after := #[{ on := 61, ground := Ground.guard }], guard := some (61, true) }) (v := ?_) rfl OPS8_sel OPS8_g8 (by decide) (by decide) (fun _ _ _ h => h) (Or.inl ⟨rfl, ?_⟩) hHeld ?_
  rotate_left
  · (intro wz hSw; (try dsimp only at hSw); go_simp; try with_reducible rfl)
  try simp only [Act.put, List.setIfInBounds_toArray, List.set_cons_zero, List.set_cons_succ]
  refine seq_take 64 (oi := { dst := some 125, op := Op.indexAddr 23 (Operand.tmp 124) (Operand.tmp 123), type := 0, pos := "more.go:34", after := #[{ on := 63, ground := Ground.data }, { on := 62, ground := Ground.data }, { on := 61, ground := Ground.guard }], guard := some (61, true) }) (v := ?_) rfl OPS8_sel OPS8_g8 (by decide) (by decide) (fun _ _ _ h => h) (Or.inl ⟨rfl, ?_⟩) hHeld ?_
  rotate_left
  · (intro wz hSw; (try dsimp only at hSw); go_simp; try with_reducible rfl)
  try simp only [Act.put, List.setIfInBounds_toArray, List.set_cons_zero, List.set_cons_succ]
  refine seq_take 65 (oi := { dst := some 126, op := Op.load 22 (Operand.tmp 125), type := 22, pos := "more.go:34", after := #[{ on := 64, ground := Ground.data }, { on := 61, ground := Ground.guard }], guard := some (61, true) }) (v := ?_) rfl OPS8_sel OPS8_g8 (by decide) (by decide) (fun _ _ _ h => h) (Or.inl ⟨rfl, ?_⟩) hHeld ?_
  rotate_left
  · (intro wz hSw; (try dsimp only at hSw); have q := hSw.hV.cell j.toNat _ (A.cell_r V j.toNat (by omega)); rw [eV] at q; go_simp; try with_reducible rfl)
  try simp only [Act.put, List.setIfInBounds_toArray, List.set_cons_zero, List.set_cons_succ]
  refine seq_take 66 (oi := { dst := some 127, op := Op.move (Operand.tmp 8), type := 3, pos := "more.go:34", after := #[{ on := 61, ground := Ground.guard }], guard := some (61, true) }) (v := ?_) rfl OPS8_sel OPS8_g8 (by decide) (by decide) (fun _ _ _ h => h) (Or.inl ⟨rfl, ?_⟩) hHeld ?_
  rotate_left
  · (intro wz hSw; (try dsimp only at hSw); go_simp; try with_reducible rfl)
  try simp only [Act.put, List.setIfInBounds_toArray, List.set_cons_zero, List.set_cons_succ]
  refine seq_take 67 (oi := { dst := some 128, op := Op.binOp BinOp.and 3 (Operand.tmp 127) (Operand.const (Value.int IntKind.i64 65535)) 3, type := 3, pos := "more.go:34", after := #[{ on := 66, ground := Ground.data }, { on := 61, ground := Ground.guard }], guard := some (61, true) }) (v := ?_) rfl OPS8_sel OPS8_g9 (by decide) (by decide) (fun _ _ _ h => h) (Or.inl ⟨rfl, ?_⟩) hHeld ?_
  rotate_left
  · (intro wz hSw; (try dsimp only at hSw); go_simp; try with_reducible rfl)
  try simp only [Act.put, List.setIfInBounds_toArray, List.set_cons_zero, List.set_cons_succ]
  refine seq_take 68 (oi := { dst := some 129, op := Op.convert 3 22 (Operand.tmp 128), type := 22, pos := "more.go:34", after := #[{ on := 67, ground := Ground.data }, { on := 61, ground := Ground.guard }], guard := some (61, true) }) (v := ?_) rfl OPS8_sel OPS8_g9 (by decide) (by decide) (fun _ _ _ h => h) (Or.inl ⟨rfl, ?_⟩) hHeld ?_
  rotate_left
  · (intro wz hSw; (try dsimp only at hSw); go_simp; try with_reducible rfl)
  try simp only [Act.put, List.setIfInBounds_toArray, List.set_cons_zero, List.set_cons_succ]
  refine seq_take 69 (oi := { dst := some 130, op := Op.binOp BinOp.shl 22 (Operand.tmp 129) (Operand.const (Value.int IntKind.u64 16)) 40, type := 22, pos := "more.go:34", after := #[{ on := 68, ground := Ground.data }, { on := 61, ground := Ground.guard }], guard := some (61, true) }) (v := ?_) rfl OPS8_sel OPS8_g9 (by decide) (by decide) (fun _ _ _ h => h) (Or.inl ⟨rfl, ?_⟩) hHeld ?_
  rotate_left
  · (intro wz hSw; (try dsimp only at hSw); go_simp; try with_reducible rfl)
  try simp only [Act.put, List.setIfInBounds_toArray, List.set_cons_zero, List.set_cons_succ]
  refine seq_take 70 (oi := { dst := some 131, op := Op.move (Operand.tmp 8), type := 3, pos := "more.go:34", after := #[{ on := 61, ground := Ground.guard }], guard := some (61, true) }) (v := ?_) rfl OPS8_sel OPS8_g9 (by decide) (by decide) (fun _ _ _ h => h) (Or.inl ⟨rfl, ?_⟩) hHeld ?_
  rotate_left
  · (intro wz hSw; (try dsimp only at hSw); go_simp; try with_reducible rfl)
  try simp only [Act.put, List.setIfInBounds_toArray, List.set_cons_zero, List.set_cons_succ]
  refine seq_take 71 (oi := { dst := some 132, op := Op.binOp BinOp.and 3 (Operand.tmp 131) (Operand.const (Value.int IntKind.i64 65535)) 3, type := 3, pos := "more.go:34", after := #[{ on := 70, ground := Ground.data }, { on := 61, ground := Ground.guard }], guard := some (61, true) }) (v := ?_) rfl OPS8_sel OPS8_g9 (by decide) (by decide) (fun _ _ _ h => h) (Or.inl ⟨rfl, ?_⟩) hHeld ?_
  rotate_left
  · (intro wz hSw; (try dsimp only at hSw); go_simp; try with_reducible rfl)
  try simp only [Act.put, List.setIfInBounds_toArray, List.set_cons_zero, List.set_cons_succ]
  refine seq_take 72 (oi := { dst := some 133, op := Op.convert 3 22 (Operand.tmp 132), type := 22, pos := "more.go:34", after := #[{ on := 71, ground := Ground.data }, { on := 61, ground := Ground.guard }], guard := some (61, true) }) (v := ?_) rfl OPS8_sel OPS8_g9 (by decide) (by decide) (fun _ _ _ h => h) (Or.inl ⟨rfl, ?_⟩) hHeld ?_
  rotate_left
  · (intro wz hSw; (try dsimp only at hSw); go_simp; try with_reducible rfl)
  try simp only [Act.put, List.setIfInBounds_toArray, List.set_cons_zero, List.set_cons_succ]
  refine seq_take 73 (oi := { dst := some 134, op := Op.binOp BinOp.add 22 (Operand.tmp 130) (Operand.tmp 133) 22, type := 22, pos := "more.go:34", after := #[{ on := 69, ground := Ground.data }, { on := 72, ground := Ground.data }, { on := 61, ground := Ground.guard }], guard := some (61, true) }) (v := ?_) rfl OPS8_sel OPS8_g9 (by decide) (by decide) (fun _ _ _ h => h) (Or.inl ⟨rfl, ?_⟩) hHeld ?_
  rotate_left
  · (intro wz hSw; (try dsimp only at hSw); go_simp; try with_reducible rfl)
  try simp only [Act.put, List.setIfInBounds_toArray, List.set_cons_zero, List.set_cons_succ]
  refine seq_take 74 (oi := { dst := some 135, op := Op.binOp BinOp.eql 22 (Operand.tmp 126) (Operand.tmp 134) 22, type := 4, pos := "more.go:34", after := #[{ on := 65, ground := Ground.data }, { on := 73, ground := Ground.data }, { on := 61, ground := Ground.guard }], guard := some (61, true) }) (v := ?_) rfl OPS8_sel OPS8_g9 (by decide) (by decide) (fun _ _ _ h => h) (Or.inl ⟨rfl, ?_⟩) hHeld ?_
  rotate_left
  · (intro wz hSw; (try dsimp only at hSw); go_simp; try with_reducible rfl)
  try simp only [Act.put, List.setIfInBounds_toArray, List.set_cons_zero, List.set_cons_succ]
  refine seq_take 75 (oi := { dst := some 136, op := Op.pick (Operand.tmp 122) (Operand.tmp 135) (Operand.const (Value.bool false)), type := 4, pos := "more.go:34", after := #[{ on := 61, ground := Ground.data }, { on := 74, ground := Ground.data }], guard := none }) (v := ?_) rfl OPS8_sel OPS8_g10 (by decide) (by decide) (fun _ _ _ h => h) (Or.inl ⟨rfl, ?_⟩) hHeld ?_
  rotate_left
  · (intro wz hSw; (try dsimp only at hSw); go_simp; try with_reducible rfl)
  try simp only [Act.put, List.setIfInBounds_toArray, List.set_cons_zero, List.set_cons_succ]
  refine seq_take 76 (oi := { dst := some 137, op := Op.move (Operand.tmp 136), type := 4, pos := "more.go:34", after := #[{ on := 75, ground := Ground.data }, { on := 61, ground := Ground.chain }], guard := none }) (v := ?_) rfl OPS8_sel OPS8_g10 (by decide) (by decide) (fun _ _ _ h => h) (Or.inl ⟨rfl, ?_⟩) hHeld ?_
  rotate_left
  · (intro wz hSw; (try dsimp only at hSw); go_simp; try with_reducible rfl)
  try simp only [Act.put, List.setIfInBounds_toArray, List.set_cons_zero, List.set_cons_succ]
  refine seq_take 77 (oi := { dst := some 138, op := Op.fieldAddr 25 (Operand.tmp 14) 4, type := 0, pos := "more.go:34", after := #[{ on := 76, ground := Ground.guard }], guard := some (76, true) }) (v := ?_) rfl OPS8_sel OPS8_g10 (by decide) (by decide) (fun _ _ _ h => h) (Or.inl ⟨rfl, ?_⟩) hHeld ?_
  rotate_left
  · (intro wz hSw; (try dsimp only at hSw); go_simp; try with_reducible rfl)
  try simp only [Act.put, List.setIfInBounds_toArray, List.set_cons_zero, List.set_cons_succ]
  refine seq_take 78 (oi := { dst := some 139, op := Op.load 4 (Operand.tmp 138), type := 4, pos := "more.go:34", after := #[{ on := 77, ground := Ground.data }, { on := 76, ground := Ground.guard }], guard := some (76, true) }) (v := ?_) rfl OPS8_sel OPS8_g10 (by decide) (by decide) (fun _ _ _ h => h) (Or.inl ⟨rfl, ?_⟩) hHeld ?_
  rotate_left
  · (intro wz hSw; (try dsimp only at hSw); have q := hSw.hZ.cell 19 _ (A.cell_c Z); rw [ec] at q; go_simp; try with_reducible rfl)
  try simp only [Act.put, List.setIfInBounds_toArray, List.set_cons_zero, List.set_cons_succ]
  refine seq_take 79 (oi := { dst := some 140, op := Op.fieldAddr 25 (Operand.tmp 3) 4, type := 0, pos := "more.go:34", after := #[{ on := 76, ground := Ground.guard }], guard := some (76, true) }) (v := ?_) rfl OPS8_sel OPS8_g10 (by decide) (by decide) (fun _ _ _ h => h) (Or.inl ⟨rfl, ?_⟩) hHeld ?_
  rotate_left
  · (intro wz hSw; (try dsimp only at hSw); go_simp; try with_reducible rfl)
  try simp only [Act.put, List.setIfInBounds_toArray, List.set_cons_zero, List.set_cons_succ]
  refine seq_take 80 (oi := { dst := some 141, op := Op.load 4 (Operand.tmp 140), type := 4, pos := "more.go:34", after := #[{ on := 79, ground := Ground.data }, { on := 76, ground := Ground.guard }], guard := some (76, true) }) (v := ?_) rfl OPS8_sel OPS8_g10 (by decide) (by decide) (fun _ _ _ h => h) (Or.inl ⟨rfl, ?_⟩) hHeld ?_
  rotate_left
  · (intro wz hSw; (try dsimp only at hSw); have q := hSw.hS.cell 19 _ (A.cell_c s); go_simp; try with_reducible rfl)
  try simp only [Act.put, List.setIfInBounds_toArray, List.set_cons_zero, List.set_cons_succ]
  refine seq_take 81 (oi := { dst := some 142, op := Op.binOp BinOp.eql 4 (Operand.tmp 139) (Operand.tmp 141) 4, type := 4, pos := "more.go:34", after := #[{ on := 78, ground := Ground.data }, { on := 80, ground := Ground.data }, { on := 76, ground := Ground.guard }], guard := some (76, true) }) (v := ?_) rfl OPS8_sel OPS8_g10 (by decide) (by decide) (fun _ _ _ h => h) (Or.inl ⟨rfl, ?_⟩) hHeld ?_
  rotate_left
  · (intro wz hSw; (try dsimp only at hSw); go_simp; try with_reducible rfl)
  try simp only [Act.put, List.setIfInBounds_toArray, List.set_cons_zero, List.set_cons_succ]
  refine seq_take 82 (oi := { dst := some 143, op := Op.pick (Operand.tmp 137) (Operand.tmp 142) (Operand.const (Value.bool false)), type := 4, pos := "more.go:34", after := #[{ on := 76, ground := Ground.data }, { on := 81, ground := Ground.data }], guard := none }) (v := ?_) rfl OPS8_sel OPS8_g10 (by decide) (by decide) (fun _ _ _ h => h) (Or.inl ⟨rfl, ?_⟩) hHeld ?_
  rotate_left
  · (intro wz hSw; (try dsimp only at hSw); go_simp; try with_reducible rfl)
  try simp only [Act.put, List.setIfInBounds_toArray, List.set_cons_zero, List.set_cons_succ]
  refine seq_take 83 (oi := { dst := some 144, op := Op.move (Operand.tmp 143), type := 4, pos := "more.go:34", after := #[{ on := 82, ground := Ground.data }, { on := 76, ground := Ground.chain }], guard := none }) (v := ?_) rfl OPS8_sel OPS8_g11 (by decide) (by decide) (fun _ _ _ h => h) (Or.inl ⟨rfl, ?_⟩) hHeld ?_
  rotate_left
  · (intro wz hSw; (try dsimp only at hSw); go_simp; try with_reducible rfl)
  try simp only [Act.put, List.setIfInBounds_toArray, List.set_cons_zero, List.set_cons_succ]
  refine seq_take 84 (oi := { dst := some 145, op := Op.fieldAddr 25 (Operand.tmp 14) 5, type := 0, pos := "more.go:34", after := #[{ on := 83, ground := Ground.guard }], guard := some (83, true) }) (v := ?_) rfl OPS8_sel OPS8_g11 (by decide) (by decide) (fun _ _ _ h => h) (Or.inl ⟨rfl, ?_⟩) hHeld ?_
  rotate_left
  · (intro wz hSw; (try dsimp only at hSw); go_simp; try with_reducible rfl)
  try simp only [Act.put, List.setIfInBounds_toArray, List.set_cons_zero, List.set_cons_succ]
  refine seq_take 85 (oi := { dst := some 146, op := Op.load 4 (Operand.tmp 145), type := 4, pos := "more.go:34", after := #[{ on := 84, ground := Ground.data }, { on := 83, ground := Ground.guard }], guard := some (83, true) }) (v := ?_) rfl OPS8_sel OPS8_g11 (by decide) (by decide) (fun _ _ _ h => h) (Or.inl ⟨rfl, ?_⟩) hHeld ?_
  rotate_left
  · (intro wz hSw; (try dsimp only at hSw); have q := hSw.hZ.cell 20 _ (A.cell_v Z); rw [ev] at q; go_simp; try with_reducible rfl)
  try simp only [Act.put, List.setIfInBounds_toArray, List.set_cons_zero, List.set_cons_succ]
  refine seq_take 86 (oi := { dst := some 147, op := Op.fieldAddr 25 (Operand.tmp 3) 5, type := 0, pos := "more.go:34", after := #[{ on := 83, ground := Ground.guard }], guard := some (83, true) }) (v := ?_) rfl OPS8_sel OPS8_g11 (by decide) (by decide) (fun _ _ _ h => h) (Or.inl ⟨rfl, ?_⟩) hHeld ?_
  rotate_left
  · (intro wz hSw; (try dsimp only at hSw); go_simp; try with_reducible rfl)
  try simp only [Act.put, List.setIfInBounds_toArray, List.set_cons_zero, List.set_cons_succ]
  refine seq_take 87 (oi := { dst := some 148, op := Op.load 4 (Operand.tmp 147), type := 4, pos := "more.go:34", after := #[{ on := 86, ground := Ground.data }, { on := 83, ground := Ground.guard }], guard := some (83, true) }) (v := ?_) rfl OPS8_sel OPS8_g11 (by decide) (by decide) (fun _ _ _ h => h) (Or.inl ⟨rfl, ?_⟩) hHeld ?_
  rotate_left
  · (intro wz hSw; (try dsimp only at hSw); have q := hSw.hS.cell 20 _ (A.cell_v s); go_simp; try with_reducible rfl)
  try simp only [Act.put, List.setIfInBounds_toArray, List.set_cons_zero, List.set_cons_succ]
  refine seq_take 88 (oi := { dst := some 149, op := Op.binOp BinOp.eql 4 (Operand.tmp 146) (Operand.tmp 148) 4, type := 4, pos := "more.go:34", after := #[{ on := 85, ground := Ground.data }, { on := 87, ground := Ground.data }, { on := 83, ground := Ground.guard }], guard := some (83, true) }) (v := ?_) rfl OPS8_sel OPS8_g11 (by decide) (by decide) (fun _ _ _ h => h) (Or.inl ⟨rfl, ?_⟩) hHeld ?_
  rotate_left
  · (intro wz hSw; (try dsimp only at hSw); go_simp; try with_reducible rfl)
  try simp only [Act.put, List.setIfInBounds_toArray, List.set_cons_zero, List.set_cons_succ]
  refine seq_take 89 (oi := { dst := some 150, op := Op.pick (Operand.tmp 144) (Operand.tmp 149) (Operand.const (Value.bool false)), type := 4, pos := "more.go:34", after := #[{ on := 83, ground := Ground.data }, { on := 88, ground := Ground.data }], guard := none }) (v := ?_) rfl OPS8_sel OPS8_g11 (by decide) (by decide) (fun _ _ _ h => h) (Or.inl ⟨rfl, ?_⟩) hHeld ?_
  rotate_left
  · (intro wz hSw; (try dsimp only at hSw); go_simp; try with_reducible rfl)
  try simp only [Act.put, List.setIfInBounds_toArray, List.set_cons_zero, List.set_cons_succ]
  refine seq_take 90 (oi := { dst := some 151, op := Op.move (Operand.tmp 150), type := 4, pos := "more.go:34", after := #[{ on := 89, ground := Ground.data }, { on := 83, ground := Ground.chain }], guard := none }) (v := ?_) rfl OPS8_sel OPS8_g11 (by decide) (by decide) (fun _ _ _ h => h) (Or.inl ⟨rfl, ?_⟩) hHeld ?_
  rotate_left
  · (intro wz hSw; (try dsimp only at hSw); go_simp; try with_reducible rfl)
  try simp only [Act.put, List.setIfInBounds_toArray, List.set_cons_zero, List.set_cons_succ]
  refine seq_take 91 (oi := { dst := some 152, op := Op.fieldAddr 25 (Operand.tmp 14) 1, type := 0, pos := "more.go:34", after := #[{ on := 90, ground := Ground.guard }], guard := some (90, true) }) (v := ?_) rfl OPS8_sel OPS8_g12 (by decide) (by decide) (fun _ _ _ h => h) (Or.inl ⟨rfl, ?_⟩) hHeld ?_
  rotate_left
  · (intro wz hSw; (try dsimp only at hSw); go_simp; try with_reducible rfl)
  try simp only [Act.put, List.setIfInBounds_toArray, List.set_cons_zero, List.set_cons_succ]
  refine seq_take 92 (oi := { dst := some 153, op := Op.load 22 (Operand.tmp 152), type := 22, pos := "more.go:34", after := #[{ on := 91, ground := Ground.data }, { on := 90, ground := Ground.guard }], guard := some (90, true) }) (v := ?_) rfl OPS8_sel OPS8_g12 (by decide) (by decide) (fun _ _ _ h => h) (Or.inl ⟨rfl, ?_⟩) hHeld ?_
  rotate_left
  · (intro wz hSw; (try dsimp only at hSw); have q := hSw.hZ.cell 16 _ (A.cell_h Z); rw [eh] at q; go_simp; try with_reducible rfl)
  try simp only [Act.put, List.setIfInBounds_toArray, List.set_cons_zero, List.set_cons_succ]
  refine seq_take 93 (oi := { dst := some 154, op := Op.fieldAddr 25 (Operand.tmp 3) 1, type := 0, pos := "more.go:34", after := #[{ on := 90, ground := Ground.guard }], guard := some (90, true) }) (v := ?_) rfl OPS8_sel OPS8_g12 (by decide) (by decide) (fun _ _ _ h => h) (Or.inl ⟨rfl, ?_⟩) hHeld ?_
  rotate_left
  · (intro wz hSw; (try dsimp only at hSw); go_simp; try with_reducible rfl)
  try simp only [Act.put, List.setIfInBounds_toArray, List.set_cons_zero, List.set_cons_succ]
  refine seq_take 94 (oi := { dst := some 155, op := Op.load 22 (Operand.tmp 154), type := 22, pos := "more.go:34", after := #[{ on := 93, ground := Ground.data }, { on := 90, ground := Ground.guard }], guard := some (90, true) }) (v := ?_) rfl OPS8_sel OPS8_g12 (by decide) (by decide) (fun _ _ _ h => h) (Or.inl ⟨rfl, ?_⟩) hHeld ?_
  rotate_left
  · (intro wz hSw; (try dsimp only at hSw); have q := hSw.hS.cell 16 _ (A.cell_h s); go_simp; try with_reducible rfl)
  try simp only [Act.put, List.setIfInBounds_toArray, List.set_cons_zero, List.set_cons_succ]
  refine seq_take 95 (oi := { dst := some 156, op := Op.binOp BinOp.eql 22 (Operand.tmp 153) (Operand.tmp 155) 22, type := 4, pos := "more.go:34", after := #[{ on := 92, ground := Ground.data }, { on := 94, ground := Ground.data }, { on := 90, ground := Ground.guard }], guard := some (90, true) }) (v := ?_) rfl OPS8_sel OPS8_g12 (by decide) (by decide) (fun _ _ _ h => h) (Or.inl ⟨rfl, ?_⟩) hHeld ?_
  rotate_left
  · (intro wz hSw; (try dsimp only at hSw); go_simp; try with_reducible rfl)
  try simp only [Act.put, List.setIfInBounds_toArray, List.set_cons_zero, List.set_cons_succ]
  refine seq_take 96 (oi := { dst := some 157, op := Op.pick (Operand.tmp 151) (Operand.tmp 156) (Operand.const (Value.bool false)), type := 4, pos := "more.go:34", after := #[{ on := 90, ground := Ground.data }, { on := 95, ground := Ground.data }], guard := none }) (v := ?_) rfl OPS8_sel OPS8_g12 (by decide) (by decide) (fun _ _ _ h => h) (Or.inl ⟨rfl, ?_⟩) hHeld ?_
  rotate_left
  · (intro wz hSw; (try dsimp only at hSw); go_simp; try with_reducible rfl)
  try simp only [Act.put, List.setIfInBounds_toArray, List.set_cons_zero, List.set_cons_succ]
  refine seq_take 97 (oi := { dst := some 6, op := Op.assign (Operand.tmp 157), type := 4, pos := "more.go:34", after := #[{ on := 96, ground := Ground.data }, { on := 90, ground := Ground.chain }, { on := 0, ground := Ground.phase }, { on := 1, ground := Ground.phase }, { on := 2, ground := Ground.phase }, { on := 3, ground := Ground.phase }, { on := 4, ground := Ground.phase }, { on := 5, ground := Ground.phase }, { on := 6, ground := Ground.phase }, { on := 7, ground := Ground.phase }, { on := 8, ground := Ground.phase }, { on := 9, ground := Ground.phase }, { on := 10, ground := Ground.phase }, { on := 11, ground := Ground.phase }, { on := 12, ground := Ground.phase }, { on := 13, ground := Ground.phase }, { on := 14, ground := Ground.phase }, { on := 15, ground := Ground.phase }, { on := 16, ground := Ground.phase }, { on := 17, ground := Ground.phase }, { on := 18, ground := Ground.phase }, { on := 19, ground := Ground.phase }, { on := 20, ground := Ground.phase }, { on := 21, ground := Ground.phase }, { on := 22, ground := Ground.phase }, { on := 23, ground := Ground.phase }, { on := 24, ground := Ground.phase }, { on := 25, ground := Ground.phase }, { on := 26, ground := Ground.phase }, { on := 27, ground := Ground.phase }, { on := 28, ground := Ground.phase }, { on := 29, ground := Ground.phase }, { on := 30, ground := Ground.phase }, { on := 31, ground := Ground.phase }, { on := 32, ground := Ground.phase }, { on := 33, ground := Ground.phase }, { on := 34, ground := Ground.phase }, { on := 35, ground := Ground.phase }, { on := 36, ground := Ground.phase }, { on := 37, ground := Ground.phase }, { on := 38, ground := Ground.phase }, { on := 39, ground := Ground.phase }, { on := 40, ground := Ground.phase }, { on := 41, ground := Ground.phase }, { on := 42, ground := Ground.phase }, { on := 43, ground := Ground.phase }, { on := 44, ground := Ground.phase }, { on := 45, ground := Ground.phase }, { on := 46, ground := Ground.phase }, { on := 47, ground := Ground.phase }, { on := 48, ground := Ground.phase }, { on := 49, ground := Ground.phase }, { on := 50, ground := Ground.phase }, { on := 51, ground := Ground.phase }, { on := 52, ground := Ground.phase }, { on := 53, ground := Ground.phase }, { on := 54, ground := Ground.phase }, { on := 55, ground := Ground.phase }, { on := 56, ground := Ground.phase }, { on := 57, ground := Ground.phase }, { on := 58, ground := Ground.phase }, { on := 59, ground := Ground.phase }, { on := 60, ground := Ground.phase }, { on := 61, ground := Ground.phase }, { on := 62, ground := Ground.phase }, { on := 63, ground := Ground.phase }, { on := 64, ground := Ground.phase }, { on := 65, ground := Ground.phase }, { on := 66, ground := Ground.phase }, { on := 67, ground := Ground.phase }, { on := 68, ground := Ground.phase }, { on := 69, ground := Ground.phase }, { on := 70, ground := Ground.phase }, { on := 71, ground := Ground.phase }, { on := 72, ground := Ground.phase }, { on := 73, ground := Ground.phase }, { on := 74, ground := Ground.phase }, { on := 75, ground := Ground.phase }, { on := 76, ground := Ground.phase }, { on := 77, ground := Ground.phase }, { on := 78, ground := Ground.phase }, { on := 79, ground := Ground.phase }, { on := 80, ground := Ground.phase }, { on := 81, ground := Ground.phase }, { on := 82, ground := Ground.phase }, { on := 83, ground := Ground.phase }, { on := 84, ground := Ground.phase }, { on := 85, ground := Ground.phase }, { on := 86, ground := Ground.phase }, { on := 87, ground := Ground.phase }, { on := 88, ground := Ground.phase }, { on := 89, ground := Ground.phase }, { on := 90, ground := Ground.phase }, { on := 91, ground := Ground.phase }, { on := 92, ground := Ground.phase }, { on := 93, ground := Ground.phase }, { on := 94, ground := Ground.phase }, { on := 95, ground := Ground.phase }, { on := 96, ground := Ground.phase }], guard := none }) (v := ?_) rfl OPS8_sel OPS8_g12 (by decide) (by decide) (fun _ _ _ h => h) (Or.inl ⟨rfl, ?_⟩) hHeld ?_
  rotate_left
  · (intro wz hSw; (try dsimp only at hSw); go_simp; try with_reducible rfl)
  try simp only [Act.put, List.setIfInBounds_toArray, List.set_cons_zero, List.set_cons_succ]
  refine wpAnyH_done (by kernel_rfl) ?_ _
  go_wp2_with fail
  go_ret
  exact yesB rfl hHeld.kept

theorem A.set_same (s : A.Regs) (j : Nat) : A.set s j (s.r j) = s := by
  obtain ⟨r, h, n, z, c, v⟩ := s
  unfold A.set
  congr 1
  funext k
  simp only
  split
  · rename_i e; rw [e]
  · rfl
theorem A.or32 (x y : Int) (h0 : 0 ≤ x) (h1 : x < 65536) (h2 : 0 ≤ y) (h3 : y < 65536) : bits BinOp.or IntKind.u32 (x * 65536) y = x * 65536 + y := by
  rw [u32_or (x * 65536) y (by omega) (by omega) h2 (by omega), nat_join 16 _ _ (by omega) (by omega)]
  omega
theorem i32_and_17 (n : Int) : bits .and .i64 n 131071 = n % 131072 := by
  have h : (BitVec.ofInt 64 131071).toNat = 2 ^ 17 - 1 := by decide
  have key : (BitVec.ofInt 64 n &&& BitVec.ofInt 64 131071).toNat = (n % ((2 ^ 64 : Nat) : Int)).toNat % 2 ^ 17 := by
    rw [BitVec.toNat_and, BitVec.toNat_ofInt, h, Nat.and_two_pow_sub_one_eq_mod]
  show IntKind.i64.wrap ((BitVec.ofInt 64 n &&& BitVec.ofInt 64 131071).toNat : Nat) = n % 131072
  rw [key, IntKind.wrap_i64]
  omega
theorem i64_and_lo (n : Int) : bits .and .i64 n 65535 = n % 65536 := by
  have h : (BitVec.ofInt 64 65535).toNat = 2 ^ 16 - 1 := by decide
  have key : (BitVec.ofInt 64 n &&& BitVec.ofInt 64 65535).toNat = (n % ((2 ^ 64 : Nat) : Int)).toNat % 2 ^ 16 := by
    rw [BitVec.toNat_and, BitVec.toNat_ofInt, h, Nat.and_two_pow_sub_one_eq_mod]
  show IntKind.i64.wrap ((BitVec.ofInt 64 n &&& BitVec.ofInt 64 65535).toNat : Nat) = n % 65536
  rw [key, IntKind.wrap_i64]
  omega
theorem u8_and_4 (n : Int) (h0 : 0 ≤ n) (h1 : n ≤ 255) : bits .and .u8 n 15 = n % 16 := by
  have h : (BitVec.ofInt 8 15).toNat = 2 ^ 4 - 1 := by decide
  have key : (BitVec.ofInt 8 n &&& BitVec.ofInt 8 15).toNat = (n % ((2 ^ 8 : Nat) : Int)).toNat % 2 ^ 4 := by
    rw [BitVec.toNat_and, BitVec.toNat_ofInt, h, Nat.and_two_pow_sub_one_eq_mod]
  show IntKind.u8.wrap ((BitVec.ofInt 8 n &&& BitVec.ofInt 8 15).toNat : Nat) = n % 16
  rw [key]
  simp only [IntKind.wrap, IntKind.bits, IntKind.signed]
  simp
  omega
theorem walk_Moves (s : A.Regs) (n k : Int) (hs : A.Ok s) (n0 : -2147483648 ≤ n) (n1 : n ≤ 2147483647) (k0 : 0 ≤ k) (k1 : k ≤ 255) (w : World) :
    Calls Try.prog 9 #[.agg (A.cells s), .int .i32 n, .int .u8 k] w fun e w' => e = .returned (.bool true) ∧ Below w.heap.size w w' := by
  obtain ⟨j, hj⟩ : ∃ r, bits .and .u8 k 15 = r := ⟨_, rfl⟩
  obtain ⟨M, hM⟩ : ∃ r, bits .and .i64 n 131071 = r := ⟨_, rfl⟩
  obtain ⟨L, hL⟩ : ∃ r, bits .and .i64 (M - 65536) 65535 = r := ⟨_, rfl⟩
  have j0 : 0 ≤ j ∧ j < 16 := by rw [← hj, u8_and_4 k k0 k1]; omega
  have M0 : 0 ≤ M ∧ M ≤ 131071 := by rw [← hM, i32_and_17]; omega
  have L0 : 0 ≤ L ∧ L ≤ 65535 := by rw [← hL, i64_and_lo]; omega
  have m1 : I.May ⟨2, 0, j, 0, 0, M - 65536, false⟩ := by unfold I.May; simp; omega
  have m2 : I.May ⟨2, 0, j, 0, 0, L, true⟩ := by unfold I.May; simp; omega
  have m3 : I.May ⟨1, 0, j, 0, j, 0, false⟩ := by unfold I.May; simp; omega
  have m4 : I.May ⟨2, 6, j, j, 0, L, false⟩ := by unfold I.May; simp; omega
  have w1 : A.res s ⟨2, 0, j, 0, 0, M - 65536, false⟩ = _ := (A.res_2 s 0 j 0 0 (M - 65536) false).trans (A.work_0 s (s.r 0) ((M - 65536) % 4294967296) false)
  have w2 : A.res s ⟨2, 0, j, 0, 0, L, true⟩ = _ := (A.res_2 s 0 j 0 0 L true).trans (A.work_0 s (s.r 0) (L % 4294967296) true)
  have w3 : A.res s ⟨1, 0, j, 0, j, 0, false⟩ = _ := (A.res_1 s 0 j 0 j 0 false).trans (A.work_0 s (s.r 0) (s.r j.toNat) false)
  have C1 := do_yes s 2 0 j 0 0 (M - 65536) false hs m1 (Or.inr (Or.inl rfl)) (fun h => absurd h.2.1 (by simp))
  have C2 := do_yes s 2 0 j 0 0 L true hs m2 (Or.inr (Or.inl rfl)) (fun h => absurd h.2.1 (by simp))
  have C3 := do_yes s 1 0 j 0 j 0 false hs m3 (Or.inl rfl) (fun h => absurd h.2.1 (by simp))
  have oY := A.done_ok s _ hs m2
  have C4 := do_yes _ 2 6 j j 0 L false oY m4 (Or.inr (Or.inl rfl)) (fun h => absurd h.2.1 (by simp))
  have eX : (A.done s ⟨2, 0, j, 0, 0, M - 65536, false⟩).r j.toNat = IntKind.u32.wrap (M - 65536) := by
    rw [A.done_r, if_pos rfl, w1, IntKind.wrap_u32]; simp
  have eN : (A.done s ⟨2, 0, j, 0, 0, M - 65536, false⟩).n = decide (M - 65536 < 0) := by
    rw [A.done_n, w1, Bool.eq_iff_iff]; simp; omega
  have eZ : (A.done s ⟨2, 0, j, 0, 0, M - 65536, false⟩).z = (M - 65536 == 0) := by
    rw [A.done_z, w1, Bool.eq_iff_iff]; simp; omega
  have eY0 : (A.done s ⟨2, 0, j, 0, 0, L, true⟩).r j.toNat = L * 65536 := by
    rw [A.done_r, if_pos rfl, w2]; simp; omega
  have eY : (A.done s ⟨2, 0, j, 0, 0, L, true⟩).r j.toNat = IntKind.u32.wrap (IntKind.u32.wrap L * 65536) := by
    rw [eY0, IntKind.wrap_u32, IntKind.wrap_u32]; omega
  obtain ⟨Y, hY⟩ : ∃ Y, A.done s ⟨2, 0, j, 0, 0, L, true⟩ = Y := ⟨_, rfl⟩
  rw [hY] at C2 C4 eY eY0 oY
  have w4 : A.res Y ⟨2, 6, j, j, 0, L, false⟩ = _ := (A.res_2 Y 6 j j 0 L false).trans (A.work_6 Y (Y.r j.toNat) (L % 4294967296) false)
  have eV : (A.done Y ⟨2, 6, j, j, 0, L, false⟩).r j.toNat = IntKind.u32.wrap (IntKind.u32.wrap (IntKind.u32.wrap L * 65536) + IntKind.u32.wrap L) := by
    rw [A.done_r, if_pos rfl, w4, eY0, IntKind.wrap_u32, IntKind.wrap_u32, IntKind.wrap_u32]
    show bits BinOp.or IntKind.u32 (L * 65536) (L % 4294967296) = _
    rw [show L % 4294967296 = L by omega, A.or32 L L L0.1 (by omega) L0.1 (by omega)]
    omega
  have hZ : A.done s ⟨1, 0, j, 0, j, 0, false⟩ = A.show' s (s.r j.toNat) := by
    unfold A.done
    rw [w3]
    show A.show' (A.set s j.toNat (s.r j.toNat)) (s.r j.toNat) = _
    rw [A.set_same]
  rw [hZ] at C3
  have sj := hs.1 j.toNat (by omega)
  exact walk_Moves_at s _ Y (A.show' s (s.r j.toNat)) _ n k j M L n0 n1 k0 k1 hj hM hL j0.1 j0.2 M0.1 M0.2 L0.1 L0.2 eX eN eZ eY eV rfl rfl rfl w (Lib.hid C1) (Lib.hid C2) (Lib.hid C3) (Lib.hid C4) (Lib.hid (show_any s _ sj.1 sj.2))
end Go.Proofs.Ytghjdpmijnlhjaa

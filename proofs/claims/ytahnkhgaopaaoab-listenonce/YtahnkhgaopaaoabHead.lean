/- The head of the program's text, sign by sign: what the closed facts ask of it, without the kernel's reading it anew each time. -/
import Derived.Test.YtahnkhgaopaaoabOpenB
namespace Go.Proofs.Ytahnkhgaopaaoab
open Go.ChangeShapes Go.WideShapes Go.ChangeAt Go.RowKit

theorem strip_cut (r : List (List Char)) : stripLifts liftWords ("cut".toList :: r) = ([], "cut".toList :: r) := by kernel_rfl
theorem make_of (P : Program) (r : List (List Char)) (h : behindMainWord (wordsSigns P.initOrder.toList) = "cut".toList :: r) : P.make = some Make.cut := by
  unfold Program.make
  rw [h]
  dsimp only
  have e1 : ("cut".toList == "gc".toList || "cut".toList == "spec".toList) = false := by kernel_rfl
  have e2 : ("cut".toList == "cut".toList) = true := by kernel_rfl
  rw [e1, e2]
  rfl
theorem lifts_of (P : Program) (r : List (List Char)) (h : behindMainWord (wordsSigns P.initOrder.toList) = "cut".toList :: r) : P.liftsFinal = false := by
  unfold Program.liftsFinal Program.headLifts
  rw [h]
  simp only [strip_cut]
  have e1 : (("cut".toList :: r).head? == some "carried".toList) = false := by kernel_rfl
  rw [e1]
  rfl
theorem may_of (P : Program) (r : List (List Char)) (h : behindMainWord (wordsSigns P.initOrder.toList) = "cut".toList :: r) (h1 : P.laysLater = false) (h2 : P.bearsReflect = false) (h3 : P.doorRows = []) : P.mayEnter = true := by
  unfold Program.mayEnter
  rw [h]
  simp only [strip_cut]
  have e1 : (some "cut".toList == some "cut".toList) = true := by kernel_rfl
  have e2 : P.doorFits [] = true := by unfold Program.doorFits; rw [h3]; rfl
  rw [h1, h2, e2, List.head?_cons, e1]
  simp

def initSigns : List Char := [104, 97, 114, 110, 101, 115, 115, 32, 97, 51, 100, 56, 52, 56, 49, 53, 98, 48, 99, 57, 57, 99, 54, 56, 51, 97, 56, 57, 54, 100, 100, 56, 57, 48, 48, 51, 54, 101, 98, 99, 102, 100, 57, 102, 52, 57, 49, 52, 101, 52, 101, 101, 53, 100, 48, 50, 50, 101, 51, 52, 102, 52, 98, 53, 100, 48, 54, 52, 97, 102, 101, 49, 32, 99, 117, 116, 32, 97, 116, 32, 108, 105, 109, 101, 108, 105, 103, 104, 116, 47, 108, 105, 109, 101, 108, 105, 103, 104, 116, 108, 97, 119, 48, 56, 46, 76, 105, 115, 116, 101, 110, 84, 101, 108, 108, 115, 32, 108, 105, 109, 101, 108, 105, 103, 104, 116, 47, 108, 105, 109, 101, 108, 105, 103, 104, 116, 108, 97, 119, 48, 56, 46, 76, 105, 115, 116, 101, 110, 70, 111, 114, 32, 108, 105, 109, 101, 108, 105, 103, 104, 116, 47, 108, 105, 109, 101, 108, 105, 103, 104, 116, 108, 97, 119, 48, 56, 46, 76, 105, 115, 116, 101, 110, 79, 110, 99, 101, 32, 108, 105, 109, 101, 108, 105, 103, 104, 116, 47, 108, 105, 109, 101, 108, 105, 103, 104, 116, 108, 97, 119, 48, 56, 46, 76, 105, 115, 116, 101, 110, 80, 97, 114, 116, 115, 32, 108, 105, 109, 101, 108, 105, 103, 104, 116, 47, 108, 105, 109, 101, 108, 105, 103, 104, 116, 108, 97, 119, 48, 56, 46, 76, 105, 115, 116, 101, 110, 66, 97, 99, 107].map Char.ofNat
def initWords : List (List Char) := [[97, 116], [108, 105, 109, 101, 108, 105, 103, 104, 116, 47, 108, 105, 109, 101, 108, 105, 103, 104, 116, 108, 97, 119, 48, 56, 46, 76, 105, 115, 116, 101, 110, 84, 101, 108, 108, 115], [108, 105, 109, 101, 108, 105, 103, 104, 116, 47, 108, 105, 109, 101, 108, 105, 103, 104, 116, 108, 97, 119, 48, 56, 46, 76, 105, 115, 116, 101, 110, 70, 111, 114], [108, 105, 109, 101, 108, 105, 103, 104, 116, 47, 108, 105, 109, 101, 108, 105, 103, 104, 116, 108, 97, 119, 48, 56, 46, 76, 105, 115, 116, 101, 110, 79, 110, 99, 101], [108, 105, 109, 101, 108, 105, 103, 104, 116, 47, 108, 105, 109, 101, 108, 105, 103, 104, 116, 108, 97, 119, 48, 56, 46, 76, 105, 115, 116, 101, 110, 80, 97, 114, 116, 115], [108, 105, 109, 101, 108, 105, 103, 104, 116, 47, 108, 105, 109, 101, 108, 105, 103, 104, 116, 108, 97, 119, 48, 56, 46, 76, 105, 115, 116, 101, 110, 66, 97, 99, 107]].map (·.map Char.ofNat)
set_option maxRecDepth 100000 in
theorem init_is : Try.prog.initOrder = String.ofList initSigns := by kernel_rfl
theorem init_chars : Try.prog.initOrder.toList = initSigns := by rw [init_is, String.toList_ofList]
set_option maxRecDepth 100000 in
theorem init_words : behindMainWord (wordsSigns Try.prog.initOrder.toList) = "cut".toList :: initWords := by
  rw [init_chars]
  kernel_rfl
set_option maxRecDepth 100000 in
theorem lays_later : Try.prog.laysLater = false := by kernel_rfl
set_option maxRecDepth 100000 in
theorem bears_reflect : Try.prog.bearsReflect = false := by kernel_rfl
set_option maxRecDepth 100000 in
theorem door_rows : Try.prog.doorRows = [] := by kernel_rfl
theorem may_enter : Try.prog.mayEnter = true := may_of _ _ init_words lays_later bears_reflect door_rows
theorem lifts_final : Try.prog.liftsFinal = false := lifts_of _ _ init_words
theorem make_is : Try.prog.make = some Make.cut := make_of _ _ init_words
end Go.Proofs.Ytahnkhgaopaaoab

/- The head of the program's text, sign by sign: what the closed facts ask of it, without the kernel's reading it anew each time. -/
import Derived.Test.YtgfdcllpmjhkeaaRowKit
namespace Go.Proofs.Ytgfdcllpmjhkeaa
open Go.ChangeShapes Go.WideShapes Go.ChangeAt Go.RowKit

theorem strip_cut (r : List (List Char)) : stripLifts liftWords ("cut".toList :: r) = ([], "cut".toList :: r) := by kernel_rfl
theorem make_of (P : Program) (r : List (List Char)) (h : behindMainWord (wordsSigns P.initOrder.toList) = "cut".toList :: r) : P.make = some Make.cut := by
  unfold Program.make
  rw [h]
  dsimp only
  have e1 : ("cut".toList == "gc".toList || "cut".toList == "spec".toList) = false := by kernel_rfl
  have e2 : ("cut".toList == "cut".toList) = true := by kernel_rfl
  rw [e1, e2]
  rfl
theorem lifts_of (P : Program) (r : List (List Char)) (h : behindMainWord (wordsSigns P.initOrder.toList) = "cut".toList :: r) : P.liftsFinal = false := by
  unfold Program.liftsFinal Program.headLifts
  rw [h]
  simp only [strip_cut]
  have e1 : (("cut".toList :: r).head? == some "carried".toList) = false := by kernel_rfl
  rw [e1]
  rfl
theorem may_of (P : Program) (r : List (List Char)) (h : behindMainWord (wordsSigns P.initOrder.toList) = "cut".toList :: r) (h1 : P.laysLater = false) (h2 : P.bearsReflect = false) (h3 : P.doorRows = []) : P.mayEnter = true := by
  unfold Program.mayEnter
  rw [h]
  simp only [strip_cut]
  have e1 : (some "cut".toList == some "cut".toList) = true := by kernel_rfl
  have e2 : P.doorFits [] = true := by unfold Program.doorFits; rw [h3]; rfl
  rw [h1, h2, e2, List.head?_cons, e1]
  simp

def initSigns : List Char := [104, 97, 114, 110, 101, 115, 115, 32, 50, 52, 49, 48, 51, 49, 51, 101, 53, 55, 52, 51, 56, 100, 56, 52, 55, 49, 49, 55, 53, 100, 97, 100, 54, 97, 56, 52, 50, 99, 48, 97, 50, 49, 49, 101, 50, 102, 53, 51, 51, 99, 49, 97, 51, 102, 54, 54, 51, 102, 51, 55, 48, 100, 100, 49, 102, 52, 56, 57, 52, 53, 101, 97, 32, 99, 117, 116, 32, 97, 116, 32, 108, 105, 109, 101, 108, 105, 103, 104, 116, 47, 108, 105, 109, 101, 108, 105, 103, 104, 116, 108, 97, 119, 48, 55, 46, 65, 105, 109, 84, 101, 108, 108, 115, 32, 108, 105, 109, 101, 108, 105, 103, 104, 116, 47, 108, 105, 109, 101, 108, 105, 103, 104, 116, 108, 97, 119, 48, 55, 46, 65, 105, 109, 86, 105, 115, 105, 116, 115, 32, 108, 105, 109, 101, 108, 105, 103, 104, 116, 47, 108, 105, 109, 101, 108, 105, 103, 104, 116, 108, 97, 119, 48, 55, 46, 65, 105, 109, 72, 105, 100, 101, 115, 32, 108, 105, 109, 101, 108, 105, 103, 104, 116, 47, 108, 105, 109, 101, 108, 105, 103, 104, 116, 108, 97, 119, 48, 55, 46, 65, 105, 109, 82, 111, 117, 110, 100, 32, 108, 105, 109, 101, 108, 105, 103, 104, 116, 47, 108, 105, 109, 101, 108, 105, 103, 104, 116, 108, 97, 119, 48, 55, 46, 65, 105, 109, 73, 110, 115, 105, 100, 101, 32, 108, 105, 109, 101, 108, 105, 103, 104, 116, 47, 108, 105, 109, 101, 108, 105, 103, 104, 116, 108, 97, 119, 48, 57, 46, 70, 105, 114, 101, 79, 114, 100, 101, 114, 32, 108, 105, 109, 101, 108, 105, 103, 104, 116, 47, 108, 105, 109, 101, 108, 105, 103, 104, 116, 108, 97, 119, 48, 57, 46, 70, 105, 114, 101, 78, 105, 108, 32, 108, 105, 109, 101, 108, 105, 103, 104, 116, 47, 108, 105, 109, 101, 108, 105, 103, 104, 116, 108, 97, 119, 48, 57, 46, 70, 105, 114, 101, 83, 97, 109, 101].map Char.ofNat
def initWords : List (List Char) := [[97, 116], [108, 105, 109, 101, 108, 105, 103, 104, 116, 47, 108, 105, 109, 101, 108, 105, 103, 104, 116, 108, 97, 119, 48, 55, 46, 65, 105, 109, 84, 101, 108, 108, 115], [108, 105, 109, 101, 108, 105, 103, 104, 116, 47, 108, 105, 109, 101, 108, 105, 103, 104, 116, 108, 97, 119, 48, 55, 46, 65, 105, 109, 86, 105, 115, 105, 116, 115], [108, 105, 109, 101, 108, 105, 103, 104, 116, 47, 108, 105, 109, 101, 108, 105, 103, 104, 116, 108, 97, 119, 48, 55, 46, 65, 105, 109, 72, 105, 100, 101, 115], [108, 105, 109, 101, 108, 105, 103, 104, 116, 47, 108, 105, 109, 101, 108, 105, 103, 104, 116, 108, 97, 119, 48, 55, 46, 65, 105, 109, 82, 111, 117, 110, 100], [108, 105, 109, 101, 108, 105, 103, 104, 116, 47, 108, 105, 109, 101, 108, 105, 103, 104, 116, 108, 97, 119, 48, 55, 46, 65, 105, 109, 73, 110, 115, 105, 100, 101], [108, 105, 109, 101, 108, 105, 103, 104, 116, 47, 108, 105, 109, 101, 108, 105, 103, 104, 116, 108, 97, 119, 48, 57, 46, 70, 105, 114, 101, 79, 114, 100, 101, 114], [108, 105, 109, 101, 108, 105, 103, 104, 116, 47, 108, 105, 109, 101, 108, 105, 103, 104, 116, 108, 97, 119, 48, 57, 46, 70, 105, 114, 101, 78, 105, 108], [108, 105, 109, 101, 108, 105, 103, 104, 116, 47, 108, 105, 109, 101, 108, 105, 103, 104, 116, 108, 97, 119, 48, 57, 46, 70, 105, 114, 101, 83, 97, 109, 101]].map (·.map Char.ofNat)
set_option maxRecDepth 100000 in
theorem init_is : Try.prog.initOrder = String.ofList initSigns := by kernel_rfl
theorem init_chars : Try.prog.initOrder.toList = initSigns := by rw [init_is, String.toList_ofList]
set_option maxRecDepth 100000 in
theorem init_words : behindMainWord (wordsSigns Try.prog.initOrder.toList) = "cut".toList :: initWords := by
  rw [init_chars]
  kernel_rfl
set_option maxRecDepth 100000 in
theorem lays_later : Try.prog.laysLater = false := by kernel_rfl
set_option maxRecDepth 100000 in
theorem bears_reflect : Try.prog.bearsReflect = false := by kernel_rfl
set_option maxRecDepth 100000 in
theorem door_rows : Try.prog.doorRows = [] := by kernel_rfl
theorem may_enter : Try.prog.mayEnter = true := may_of _ _ init_words lays_later bears_reflect door_rows
theorem lifts_final : Try.prog.liftsFinal = false := lifts_of _ _ init_words
theorem make_is : Try.prog.make = some Make.cut := make_of _ _ init_words
end Go.Proofs.Ytgfdcllpmjhkeaa

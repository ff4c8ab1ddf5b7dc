/- What a method's name means to the places that may come next. -/
import Derived.Test.YtleclkjinkbebaaReady
import Derived.Handy
namespace Go.Proofs.Ytleclkjinkbebaa
open Num Go.RowKit
set_option linter.unusedVariables false
set_option linter.unusedSimpArgs false

theorem find_Len : (Array.find? (fun x => x.name == "Len") Try.t53.methods).map (fun m => (m.path, m.func)) = some (#[], some (29, false)) := by kernel_rfl
theorem find_Less : (Array.find? (fun x => x.name == "Less") Try.t53.methods).map (fun m => (m.path, m.func)) = some (#[], some (58, false)) := by kernel_rfl
theorem find_Swap : (Array.find? (fun x => x.name == "Swap") Try.t53.methods).map (fun m => (m.path, m.func)) = some (#[], some (61, false)) := by kernel_rfl
theorem find_parts {s : String} {p : Array FieldStep} {f : Option (FuncId × Bool)} (h : (Array.find? (fun x => x.name == s) Try.t53.methods).map (fun m => (m.path, m.func)) = some (p, f)) : ∃ m, Array.find? (fun x => x.name == s) Try.t53.methods = some m ∧ m.path = p ∧ m.func = f := by
  cases hm : Array.find? (fun x => x.name == s) Try.t53.methods with
  | none => rw [hm] at h; simp at h
  | some m =>
    rw [hm] at h
    simp at h
    exact ⟨m, rfl, h.1, h.2⟩
theorem wrap_ok (ts : Array TypeId) (ty : TypeId) (a : Addr) (s t : String) (w : World) : (Builtin.ssaWrapNilChk_ ts ty #[.pointer (some a), strVal s, strVal t]).run Try.prog w = .ok (.pointer (some a)) w := rfl
theorem meth_by {s : String} {f : FuncId} (hf : (Array.find? (fun x => x.name == s) Try.t53.methods).map (fun m => (m.path, m.func)) = some (#[], some (f, false)))
    {w : World} {k : Nat} {ao : Option Addr} {n c : Nat} (h : w.cell? ⟨k, 0, none⟩ = some (.slice ao n c)) : (method 189 53 (.pointer (some ⟨k, 0, none⟩)) s).run Try.prog w = .ok (f, .slice ao n c) w := by
  have u40 := Try.underlying53
  have u41 := Try.underlying54
  obtain ⟨m, e1, e2, e3⟩ := find_parts hf
  rw [method]
  simp only [Sem.run_bind]
  simp only [go_sem]
  simp [e1, e2, e3, follow, receiverAt, Place.get, wrap_ok, run_underlying u40, asAddr, loadVar]
  rw [h]
  rfl

end Go.Proofs.Ytleclkjinkbebaa

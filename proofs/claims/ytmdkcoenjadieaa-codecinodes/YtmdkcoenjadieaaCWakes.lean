/- Contract of the fixed call. -/
import Derived.Test.YtmdkcoenjadieaaCName2
import Derived.Test.YtmdkcoenjadieaaCDir
namespace Go.Proofs.Ytmdkcoenjadieaa
open Go.RowKit Go.Shelf
set_option linter.unusedVariables false
set_option maxRecDepth 100000

/-- ab. -/
def abS : ByteArray := ⟨#[97, 98]⟩

def wakeS : ByteArray := ⟨#[3, 0, 97, 98, 0, 0, 0, 0, 0, 0, 0, 0, 0, 0, 0, 0]⟩

theorem wake_bytes : strOfNums (layB 16 (dirL 3 abS)) = wakeS := by decide +kernel

theorem name_ab (u : World) : Calls Try.prog 14 #[.string abS] u fun e w' => e = .returned (.int .i64 0) ∧ Below u.heap.size u w' :=
  name_good abS u (by decide +kernel) (by decide +kernel) (by decide +kernel) (by decide +kernel) (by decide +kernel)

set_option maxHeartbeats 2000000 in
theorem wakes_any (w : World) : Calls Try.prog 4 #[] w fun e w' => e = .returned (.bool true) ∧ Below w.heap.size w w' := by
  have K : Hid (∀ u, Calls Try.prog 9 #[.agg #[.int .i64 3, .string ⟨#[97, 98]⟩]] u fun e w' => ∃ a c, e = .returned (.tuple #[.slice a 16 c, .int .i64 0]) ∧ (∀ n, (convert 27 9 (.slice a 16 c)).run Try.prog (w'.drewN n) = .ok (.string wakeS) (w'.drewN n)) ∧ (convert 27 9 (.slice a 16 c)).run Try.prog w' = .ok (.string wakeS) w' ∧ Below u.heap.size u w') := by
    intro u
    refine (dirent_named 3 abS u (by omega) (by decide +kernel) (by decide +kernel) (fun u => name_ab u)).mono ?_
    rintro e w' ⟨a, c, rfl, hh, hb⟩
    have h1 := hh.out.1.conv c
    have h2 := fun n => (hh.out.1.drewN n).conv c
    rw [wake_bytes] at h1
    refine ⟨a, c, rfl, fun n => ?_, h1, hb⟩
    have := h2 n
    rwa [wake_bytes] at this
  go_enter Try.func4, Try.ntmps4
  go_wp2_with fail
  go_at_call 9
  refine (unhide K _).mono ?_
  rintro e w1 ⟨a, c, rfl, hcn, hc1, hb⟩
  have HB := hide hb
  have hw1 : (wakeS.toList == [3, 0, 97, 98, 0, 0, 0, 0, 0, 0, 0, 0, 0, 0, 0, 0]) = true := by decide +kernel
  clear hb K hcn
  go_wp2_with fail
  go_ret
  exact ⟨rfl, HB.out⟩

end Go.Proofs.Ytmdkcoenjadieaa

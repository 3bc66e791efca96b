/- Contract of codec.Header. -/
import Derived.Test.YtmdkcoenjadieaaDoorCHead
namespace Go.Proofs.YtmdkcoenjadieaaDoor
open Go.RowKit Go.Shelf
set_option linter.unusedVariables false
set_option maxRecDepth 100000

/-- A header's three numbers. -/
abbrev Hv (H : Nat → Int) : Value := .agg #[.int .i64 (H 0), .int .i64 (H 1), .int .i64 (H 2)]
abbrev Hc (H : Nat → Int) : Array Value := #[.int .i64 (H 0), .int .i64 (H 1), .int .i64 (H 2)]

/-- S L O G. -/
def slog : List Int := [83, 76, 79, 71]

/-- The twelve bytes ahead of a header's sum. -/
def hdrH (H : Nat → Int) : List Int := slog ++ (numsB 4 [H 0] ++ numsB 2 [H 1, H 2])

theorem hdrH_length (H : Nat → Int) : (hdrH H).length = 12 := by simp [hdrH, slog, length_numsB]

theorem slog_byts : Byts slog := by intro z hz; simp [slog] at hz; omega

theorem hdrH_byts (H : Nat → Int) : Byts (hdrH H) := by
  intro z hz
  simp only [hdrH, List.mem_append] at hz
  rcases hz with hz | hz | hz
  · exact slog_byts z hz
  · exact numsB_byte _ _ z hz
  · exact numsB_byte _ _ z hz

def hdrF (H : Nat → Int) : Bool := fitB 4 [H 0] && fitB 2 [H 1, H 2]

set_option maxHeartbeats 4000000 in
theorem header_arg (H : Nat → Int) (b : Int) (w : World) (h : ¬ isSize b) :
    Calls Tryd.prog 11 #[Hv H, .int .i64 b] w fun e w' => e = .returned (.tuple #[.slice none 0 0, .int .i64 1]) ∧ Below w.heap.size w w' := by
  have K : Hid (∀ u, Calls Tryd.prog 43 #[.int .i64 b] u fun e w' => e = .returned (.bool false) ∧ Below u.heap.size u w') := fun u => cblock_no b u h
  have HK := hide (Bx.start w (Hc H) 25)
  clear h
  go_enter Tryd.func11, Tryd.ntmps11
  go_wp2_with fail
  go_at_call 43
  refine (unhide K _).mono ?_
  rintro e w1 ⟨rfl, hb⟩
  replace HK := hide ((unhide HK).call hb)
  clear K hb
  go_wp2_with fail
  go_ret2
  exact ⟨rfl, HK.out.2.1⟩

theorem fit_list (wd : Nat) (hw : wd = 2 ∨ wd = 4) (ns : List Int) (u : World) (hl : ns.length ≤ 1000) (r : Bool) (hr : fitB wd ns = r) :
    Calls Tryd.prog 44 #[.int .i64 (wd : Int), .slice (some ⟨u.heap.size, 0, none⟩) ns.length ns.length] (u.alloc (.cells (ns.map (Value.int .i64)).toArray 3)) fun e w' => e = .returned (.bool r) ∧ Below u.heap.size u w' := by
  subst hr
  refine (fit_any wd hw _ ns.length ns.length ns _ (ihas_list u ns) (by omega)).mono ?_
  rintro e w' ⟨rfl, rfl⟩
  exact ⟨rfl, (Below.refl _ u).alloc (Nat.le_refl _) _⟩

set_option maxHeartbeats 4000000 in
theorem header_value (H : Nat → Int) (b : Int) (w : World) (h : isSize b) (hf : hdrF H = false) :
    Calls Tryd.prog 11 #[Hv H, .int .i64 b] w fun e w' => e = .returned (.tuple #[.slice none 0 0, .int .i64 3]) ∧ Below w.heap.size w w' := by
  have K : Hid (∀ u, Calls Tryd.prog 43 #[.int .i64 b] u fun e w' => e = .returned (.bool true) ∧ Below u.heap.size u w') := fun u => cblock_yes b u h
  have HK := hide (Bx.start w (Hc H) 25)
  have F4 : Hid (∀ r, fitB 4 [H 0] = r → ∀ u : World, Calls Tryd.prog 44 #[.int .i64 4, .slice (some ⟨u.heap.size, 0, none⟩) 1 1] (u.alloc (.cells #[.int .i64 (H 0)] 3)) fun e w' => e = .returned (.bool r) ∧ Below u.heap.size u w') :=
    fun r hr u => fit_list 4 (.inr rfl) [H 0] u (by simp) r hr
  have F2 : Hid (∀ r, fitB 2 [H 1, H 2] = r → ∀ u : World, Calls Tryd.prog 44 #[.int .i64 2, .slice (some ⟨u.heap.size, 0, none⟩) 2 2] (u.alloc (.cells #[.int .i64 (H 1), .int .i64 (H 2)] 3)) fun e w' => e = .returned (.bool r) ∧ Below u.heap.size u w') :=
    fun r hr u => fit_list 2 (.inl rfl) [H 1, H 2] u (by simp) r hr
  clear h
  unfold hdrF at hf
  by_cases h4 : fitB 4 [H 0] = true
  · have h2 : fitB 2 [H 1, H 2] = false := by rw [h4] at hf; simpa using hf
    replace F4 := hide (F4.out true h4)
    replace F2 := hide (F2.out false h2)
    clear h4 h2 hf
    go_enter Tryd.func11, Tryd.ntmps11
    go_wp2_with fail
    go_at_call 43
    refine (unhide K _).mono ?_
    rintro e w1 ⟨rfl, hb⟩
    replace HK := hide ((unhide HK).call hb)
    have f0 := HK.out.1 0 _ rfl
    clear K hb
    go_wp2_with fail
    go_at_call 44
    refine (unhide F4 _).mono ?_
    rintro e w2 ⟨rfl, hb⟩
    replace HK := hide ((unhide HK).call hb)
    clear f0
    have f1 := HK.out.1 1 _ rfl
    have f2 := HK.out.1 2 _ rfl
    clear hb F4
    go_wp2_with fail
    go_at_call 44
    refine (unhide F2 _).mono ?_
    rintro e w3 ⟨rfl, hb⟩
    replace HK := hide ((unhide HK).call hb)
    clear f1 f2 hb F2
    go_wp2_with fail
    go_ret2
    exact ⟨rfl, HK.out.2.1⟩
  · replace F4 := hide (F4.out false (by simpa using h4))
    clear h4 hf F2
    go_enter Tryd.func11, Tryd.ntmps11
    go_wp2_with fail
    go_at_call 43
    refine (unhide K _).mono ?_
    rintro e w1 ⟨rfl, hb⟩
    replace HK := hide ((unhide HK).call hb)
    have f0 := HK.out.1 0 _ rfl
    clear K hb
    go_wp2_with fail
    go_at_call 44
    refine (unhide F4 _).mono ?_
    rintro e w2 ⟨rfl, hb⟩
    replace HK := hide ((unhide HK).call hb)
    clear f0 hb F4
    go_wp2_with fail
    go_ret2
    exact ⟨rfl, HK.out.2.1⟩

end Go.Proofs.YtmdkcoenjadieaaDoor

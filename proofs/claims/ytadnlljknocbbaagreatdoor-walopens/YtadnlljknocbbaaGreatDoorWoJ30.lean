/- Joined: CHead, CHdr2, CDesc, CReadP, CSupB, CRSup. -/
import Derived.Test.YtadnlljknocbbaaGreatDoorWoJ27
import Derived.Test.YtadnlljknocbbaaGreatDoorWoJ10
import Derived.Test.YtadnlljknocbbaaGreatDoorWoJ3
import Derived.Test.YtadnlljknocbbaaGreatDoorWoJ24
import Derived.Test.YtadnlljknocbbaaGreatDoorWoJ4
/- Contracts of codec.summed, codec.isBlockSize and codec.Header. -/
namespace Go.Proofs.YtadnlljknocbbaaGreatDoor
open Go.RowKit Go.Shelf
set_option linter.unusedVariables false
set_option maxRecDepth 100000

/-- A block that begins with a head and its sum. -/
def sumB (n : Nat) (h : List Int) : List Int := layB n (h ++ digits 4 ((sumS h : Nat) : Int))

theorem numsB_one (wd : Nat) (z : Int) : numsB wd [z] = digits wd z := by simp [numsB]

theorem fitB_sum {zs : List Int} (h : Byts zs) : fitB 4 [((sumS zs : Nat) : Int)] = true := by
  have := sumS_lt h
  rw [fitB_iff]
  intro v hv
  simp at hv
  subst hv
  omega

set_option maxRecDepth 100000 in
set_option maxHeartbeats 2000000 in
theorem summed_any (a : Option Addr) (len cap : Nat) (zs : List Int) (block : Nat) (w : World) (h : Has w a len zs) (hby : Byts zs) (hT : Tab w) (hl : len + 4 ≤ block) (hb : block ≤ 4096) :
    Calls Tryz.prog 138 #[.slice a len cap, .int .i64 (block : Int)] w fun e w' => ∃ g, e = .returned (.slice (some ⟨g, 0, none⟩) block block) ∧ w.heap.size ≤ g ∧ Hid (Block w' g (sumB block zs)) ∧ Below w.heap.size w w' := by
  have hlen := h.1
  have K1 := hide (sum_any a len cap zs w hT h (by omega) hby)
  have hf := fitB_sum hby
  have HS : Hid (sumB block zs = layB block (zs ++ digits 4 ((sumS zs : Nat) : Int))) := rfl
  generalize sumS zs = S at *
  have K2 : Hid (Calls Tryz.prog 137 #[.int .i64 4, .slice (some ⟨w.heap.size, 0, none⟩) 1 1] (w.alloc (.cells #[.int .i64 (S : Int)] 3)) fun e w' => ∃ a4 c4, e = .returned (.slice a4 4 c4) ∧ Hid (Has w' a4 4 (digits 4 (S : Int)) ∧ Below w.heap.size w w')) := by
    refine (numbers_any 4 (.inr (.inr rfl)) _ 1 1 [(S : Int)] _ (ihas_list w [(S : Int)]) (by omega) hf 4 rfl).mono ?_
    rintro e w' ⟨a', c', rfl, hO, hb⟩
    rw [numsB_one] at hO
    exact ⟨a', c', rfl, hO.out.has, bchain ((Below.refl _ w).alloc (Nat.le_refl _) _) hb (Nat.le_refl _)⟩
  have K3 : Hid (∀ a4 c4 w1, Hid (Has w1 a4 4 (digits 4 (S : Int)) ∧ Below w.heap.size w w1) → Calls Tryz.prog 136 #[.int .i64 (block : Int), .slice (some ⟨w1.heap.size, 0, none⟩) 2 2] (w1.alloc (.cells #[.slice a len cap, .slice a4 4 c4] 50)) fun e w' => ∃ g, e = .returned (.slice (some ⟨g, 0, none⟩) block block) ∧ w.heap.size ≤ g ∧ Hid (Block w' g (sumB block zs)) ∧ Below w.heap.size w w') := by
    intro a4 c4 w1 h1
    have hp := phas_list w1 [(a, len, cap, zs), (a4, 4, c4, digits 4 (S : Int))] (by
      intro p hp
      simp at hp
      rcases hp with rfl | rfl
      · exact h.later h1.out.2
      · exact h1.out.1)
    have hall : allP [(a, len, cap, zs), (a4, 4, c4, digits 4 (S : Int))] = zs ++ digits 4 (S : Int) := by simp [allP]
    refine (clay_any block _ 2 2 _ _ hp (by omega) (by rw [hall, List.length_append, length_digits]; omega) (by omega)).mono ?_
    rintro e w' ⟨rfl, hB, hb⟩
    rw [hall] at hB
    refine ⟨_, rfl, by have := h1.out.2.size; simp; omega, ?_, bchain (h1.out.2.alloc h1.out.2.size _) hb (Nat.le_refl _)⟩
    rw [HS.out]; exact hB
  clear h hby hT hf HS
  go_enter Tryz.func138, Tryz.ntmps138
  go_wp2_with fail
  go_at_call 160
  refine (unhide K1).mono ?_
  rintro e w' ⟨rfl, rfl⟩
  go_wp2_with fail
  go_at_call 137
  refine (unhide K2).mono ?_
  rintro e w1 ⟨a4, c4, rfl, h1⟩
  go_wp2_with fail
  go_at_call 136
  refine (unhide K3 a4 c4 w1 h1).mono ?_
  rintro e w2 ⟨g, rfl, hg, hB, hb2⟩
  go_wp2_with fail
  go_ret
  exact ⟨g, rfl, hg, hB, hb2⟩

theorem size_make {b : Int} (h : isSize b) : makeE b 10 2 4 = 0 := by
  rcases h with rfl | rfl | rfl | rfl | rfl | rfl | rfl <;> decide +kernel

theorem size_make_no {b : Int} (h : ¬ isSize b) : makeE b 10 2 4 = 1 := makeE_bad (.inl h)

set_option maxRecDepth 100000 in
set_option maxHeartbeats 2000000 in
theorem cblock_e (b : Int) (q : Int) (w : World) (h : makeE b 10 2 4 = q) (r : Bool) (hr : (q == 0) = r) :
    Calls Tryz.prog 134 #[.int .i64 b] w fun e w' => e = .returned (.bool r) ∧ Below w.heap.size w w' := by
  have K := hide (make_any b 10 2 4 w)
  rw [h] at K
  generalize makeP b 10 2 4 = Q at *
  clear h
  go_enter Tryz.func134, Tryz.ntmps134
  go_wp2_with fail
  go_at_call 84
  refine (unhide K).mono ?_
  rintro e w1 ⟨rfl, hb⟩
  have HB := hide (hb.alloc hb.size (.cells (Pc Q) 25))
  clear K hb
  go_wp2_with fail
  go_ret
  exact ⟨rfl, HB.out⟩

theorem cblock_yes (b : Int) (w : World) (h : isSize b) : Calls Tryz.prog 134 #[.int .i64 b] w fun e w' => e = .returned (.bool true) ∧ Below w.heap.size w w' :=
  cblock_e b 0 w (size_make h) true rfl

theorem cblock_no (b : Int) (w : World) (h : ¬ isSize b) : Calls Tryz.prog 134 #[.int .i64 b] w fun e w' => e = .returned (.bool false) ∧ Below w.heap.size w w' :=
  cblock_e b 1 w (size_make_no h) false rfl

end Go.Proofs.YtadnlljknocbbaaGreatDoor

/- Contract of codec.Header: the block. -/
namespace Go.Proofs.YtadnlljknocbbaaGreatDoor
open Go.RowKit Go.Shelf
set_option linter.unusedVariables false
set_option maxRecDepth 100000

/-- A header's three numbers. -/
abbrev Hv (H : Nat → Int) : Value := .agg #[.int .i64 (H 0), .int .i64 (H 1), .int .i64 (H 2)]
abbrev Hc (H : Nat → Int) : Array Value := #[.int .i64 (H 0), .int .i64 (H 1), .int .i64 (H 2)]

/-- S L O G. -/
def slog : List Int := [83, 76, 79, 71]

/-- The twelve bytes ahead of a header's sum. -/
def hdrH (H : Nat → Int) : List Int := slog ++ (numsB 4 [H 0] ++ numsB 2 [H 1, H 2])

theorem hdrH_length (H : Nat → Int) : (hdrH H).length = 12 := by simp [hdrH, slog, length_numsB]

theorem slog_byts : Byts slog := by intro z hz; simp [slog] at hz; omega

theorem hdrH_byts (H : Nat → Int) : Byts (hdrH H) := by
  intro z hz
  simp only [hdrH, List.mem_append] at hz
  rcases hz with hz | hz | hz
  · exact slog_byts z hz
  · exact numsB_byte _ _ z hz
  · exact numsB_byte _ _ z hz

def hdrF (H : Nat → Int) : Bool := fitB 4 [H 0] && fitB 2 [H 1, H 2]

set_option maxRecDepth 100000 in
set_option maxHeartbeats 4000000 in
theorem header_arg (H : Nat → Int) (b : Int) (w : World) (h : ¬ isSize b) :
    Calls Tryz.prog 115 #[Hv H, .int .i64 b] w fun e w' => e = .returned (.tuple #[.slice none 0 0, .int .i64 1]) ∧ Below w.heap.size w w' := by
  have K : Hid (∀ u, Calls Tryz.prog 134 #[.int .i64 b] u fun e w' => e = .returned (.bool false) ∧ Below u.heap.size u w') := fun u => cblock_no b u h
  have HK := hide (Bx.start w (Hc H) 57)
  clear h
  go_enter Tryz.func115, Tryz.ntmps115
  go_wp2_with fail
  go_at_call 134
  refine (unhide K _).mono ?_
  rintro e w1 ⟨rfl, hb⟩
  replace HK := hide ((unhide HK).call hb)
  clear K hb
  go_wp2_with fail
  go_ret2
  exact ⟨rfl, HK.out.2.1⟩

theorem fit_list (wd : Nat) (hw : wd = 2 ∨ wd = 4) (ns : List Int) (u : World) (hl : ns.length ≤ 1000) (r : Bool) (hr : fitB wd ns = r) :
    Calls Tryz.prog 135 #[.int .i64 (wd : Int), .slice (some ⟨u.heap.size, 0, none⟩) ns.length ns.length] (u.alloc (.cells (ns.map (Value.int .i64)).toArray 3)) fun e w' => e = .returned (.bool r) ∧ Below u.heap.size u w' := by
  subst hr
  refine (fit_any wd hw _ ns.length ns.length ns _ (ihas_list u ns) (by omega)).mono ?_
  rintro e w' ⟨rfl, rfl⟩
  exact ⟨rfl, (Below.refl _ u).alloc (Nat.le_refl _) _⟩

set_option maxRecDepth 100000 in
set_option maxHeartbeats 4000000 in
theorem header_value (H : Nat → Int) (b : Int) (w : World) (h : isSize b) (hf : hdrF H = false) :
    Calls Tryz.prog 115 #[Hv H, .int .i64 b] w fun e w' => e = .returned (.tuple #[.slice none 0 0, .int .i64 3]) ∧ Below w.heap.size w w' := by
  have K : Hid (∀ u, Calls Tryz.prog 134 #[.int .i64 b] u fun e w' => e = .returned (.bool true) ∧ Below u.heap.size u w') := fun u => cblock_yes b u h
  have HK := hide (Bx.start w (Hc H) 57)
  have F4 : Hid (∀ r, fitB 4 [H 0] = r → ∀ u : World, Calls Tryz.prog 135 #[.int .i64 4, .slice (some ⟨u.heap.size, 0, none⟩) 1 1] (u.alloc (.cells #[.int .i64 (H 0)] 3)) fun e w' => e = .returned (.bool r) ∧ Below u.heap.size u w') :=
    fun r hr u => fit_list 4 (.inr rfl) [H 0] u (by simp) r hr
  have F2 : Hid (∀ r, fitB 2 [H 1, H 2] = r → ∀ u : World, Calls Tryz.prog 135 #[.int .i64 2, .slice (some ⟨u.heap.size, 0, none⟩) 2 2] (u.alloc (.cells #[.int .i64 (H 1), .int .i64 (H 2)] 3)) fun e w' => e = .returned (.bool r) ∧ Below u.heap.size u w') :=
    fun r hr u => fit_list 2 (.inl rfl) [H 1, H 2] u (by simp) r hr
  clear h
  unfold hdrF at hf
  by_cases h4 : fitB 4 [H 0] = true
  · have h2 : fitB 2 [H 1, H 2] = false := by rw [h4] at hf; simpa using hf
    replace F4 := hide (F4.out true h4)
    replace F2 := hide (F2.out false h2)
    clear h4 h2 hf
    go_enter Tryz.func115, Tryz.ntmps115
    go_wp2_with fail
    go_at_call 134
    refine (unhide K _).mono ?_
    rintro e w1 ⟨rfl, hb⟩
    replace HK := hide ((unhide HK).call hb)
    have f0 := HK.out.1 0 _ rfl
    clear K hb
    go_wp2_with fail
    go_at_call 135
    refine (unhide F4 _).mono ?_
    rintro e w2 ⟨rfl, hb⟩
    replace HK := hide ((unhide HK).call hb)
    clear f0
    have f1 := HK.out.1 1 _ rfl
    have f2 := HK.out.1 2 _ rfl
    clear hb F4
    go_wp2_with fail
    go_at_call 135
    refine (unhide F2 _).mono ?_
    rintro e w3 ⟨rfl, hb⟩
    replace HK := hide ((unhide HK).call hb)
    clear f1 f2 hb F2
    go_wp2_with fail
    go_ret2
    exact ⟨rfl, HK.out.2.1⟩
  · replace F4 := hide (F4.out false (by simpa using h4))
    clear h4 hf F2
    go_enter Tryz.func115, Tryz.ntmps115
    go_wp2_with fail
    go_at_call 134
    refine (unhide K _).mono ?_
    rintro e w1 ⟨rfl, hb⟩
    replace HK := hide ((unhide HK).call hb)
    have f0 := HK.out.1 0 _ rfl
    clear K hb
    go_wp2_with fail
    go_at_call 135
    refine (unhide F4 _).mono ?_
    rintro e w2 ⟨rfl, hb⟩
    replace HK := hide ((unhide HK).call hb)
    clear f0 hb F4
    go_wp2_with fail
    go_ret2
    exact ⟨rfl, HK.out.2.1⟩

set_option maxRecDepth 100000 in
set_option maxHeartbeats 4000000 in
theorem header_good (H : Nat → Int) (b : Nat) (w : World) (h : isSize (b : Int)) (hf : hdrF H = true) (hT : Tab w) :
    Calls Tryz.prog 115 #[Hv H, .int .i64 (b : Int)] w fun e w' => ∃ g, e = .returned (.tuple #[.slice (some ⟨g, 0, none⟩) b b, .int .i64 0]) ∧ w.heap.size ≤ g ∧ Hid (Block w' g (sumB b (hdrH H))) ∧ Below w.heap.size w w' := by
  have K : Hid (∀ u, Calls Tryz.prog 134 #[.int .i64 (b : Int)] u fun e w' => e = .returned (.bool true) ∧ Below u.heap.size u w') := fun u => cblock_yes b u h
  have HK := hide (Bx.start w (Hc H) 57)
  have hbb := size_bd h
  unfold hdrF at hf
  rw [Bool.and_eq_true] at hf
  obtain ⟨h4, h2⟩ := hf
  have F4 : Hid (∀ u : World, Calls Tryz.prog 135 #[.int .i64 4, .slice (some ⟨u.heap.size, 0, none⟩) 1 1] (u.alloc (.cells #[.int .i64 (H 0)] 3)) fun e w' => e = .returned (.bool true) ∧ Below u.heap.size u w') :=
    fun u => fit_list 4 (.inr rfl) [H 0] u (by simp) true h4
  have F2 : Hid (∀ u : World, Calls Tryz.prog 135 #[.int .i64 2, .slice (some ⟨u.heap.size, 0, none⟩) 2 2] (u.alloc (.cells #[.int .i64 (H 1), .int .i64 (H 2)] 3)) fun e w' => e = .returned (.bool true) ∧ Below u.heap.size u w') :=
    fun u => fit_list 2 (.inl rfl) [H 1, H 2] u (by simp) true h2
  have KS : Hid (∀ a c u, Below w.heap.size w u → Has u a 12 (hdrH H) → Calls Tryz.prog 138 #[.slice a 12 c, .int .i64 (b : Int)] u fun e w' => ∃ g, e = .returned (.slice (some ⟨g, 0, none⟩) b b) ∧ u.heap.size ≤ g ∧ Hid (Block w' g (sumB b (hdrH H))) ∧ Below u.heap.size u w') :=
    fun a c u hb hh => summed_any a 12 c (hdrH H) b u hh (hdrH_byts H) (hT.below hb (tab_size hT)) (by omega) (by omega)
  have H4 := hide h4
  have H2 := hide h2
  clear h h4 h2 hT hbb
  go_enter Tryz.func115, Tryz.ntmps115
  go_wp2_with fail
  go_at_call 134
  refine (unhide K _).mono ?_
  rintro e w1 ⟨rfl, hb⟩
  replace HK := hide ((unhide HK).call hb)
  have f0 := HK.out.1 0 _ rfl
  clear K hb
  go_wp2_with fail
  go_at_call 135
  refine (unhide F4 _).mono ?_
  rintro e w2 ⟨rfl, hb⟩
  replace HK := hide ((unhide HK).call hb)
  clear f0
  have f1 := HK.out.1 1 _ rfl
  have f2 := HK.out.1 2 _ rfl
  clear hb F4
  go_wp2_with fail
  go_at_call 135
  refine (unhide F2 _).mono ?_
  rintro e w3 ⟨rfl, hb⟩
  replace HK := hide ((unhide HK).call hb)
  clear f1 f2 hb F2
  go_upto_region 5 with fail
  go_cut [6] (fun c wx => ∃ a0 c0, c = .slice a0 12 c0 ∧ Hid (Has wx a0 12 (hdrH H)) ∧ Hid (Bx w (Hc H) wx))
  case first =>
    refine wp_region_sp (by kernel_rfl) w.heap.size [spLit w.heap.size slog, spLit w.heap.size slog, spVal (.pointer (some ⟨w.heap.size, 0, none⟩)), spVal (.int .i64 (H 0)), spInts [H 0], spBytes 4 (numsB 4 [H 0]), spVal (.pointer (some ⟨w.heap.size, 1, none⟩)), spVal (.int .i64 (H 1)), spVal (.pointer (some ⟨w.heap.size, 2, none⟩)), spVal (.int .i64 (H 2)), spInts [H 1, H 2], spBytes 4 (numsB 2 [H 1, H 2]), spParts 3 (hdrH H), spBytes 12 (layB 12 (hdrH H)), spBytes 12 (layB 12 (hdrH H))] ?_ (by kernel_rfl) (by kernel_rfl) ?_ ?_
    · intro S hS
      simp only [List.mem_cons, List.not_mem_nil, or_false] at hS
      rcases hS with rfl | rfl | rfl | rfl | rfl | rfl | rfl | rfl | rfl | rfl | rfl | rfl | rfl | rfl | rfl <;> first | exact mono_val _ _ | exact mono_bytes _ _ _ | exact mono_lit _ _ | exact mono_ints _ _ | exact mono_parts _ _ _
    · intro i o a u hi hF hA hG
      have hB := HK.out.drew.grw hG
      have hn : w.heap.size ≤ u.heap.size := hB.2.1.size
      have tb : a.tmps[2]?.getD undef = .pointer (some ⟨w.heap.size, 0, none⟩) := fr_at hF 2 (by kernel_rfl)
      have hlt := (Array.getElem?_eq_some_iff.1 hi).1
      have hcs : i = 0 ∨ i = 1 ∨ i = 2 ∨ i = 3 ∨ i = 4 ∨ i = 5 ∨ i = 6 ∨ i = 7 ∨ i = 8 ∨ i = 9 ∨ i = 10 ∨ i = 11 ∨ i = 12 ∨ i = 13 ∨ i = 14 := by simp at hlt; omega
      clear hlt
      rcases hcs with rfl | rfl | rfl | rfl | rfl | rfl | rfl | rfl | rfl | rfl | rfl | rfl | rfl | rfl | rfl
      · have ho := Option.some.inj hi; subst ho
        refine st_val (w' := u.alloc (.cells (slog.map (Value.int .u8)).toArray 5)) rfl rfl (.slice (some ⟨u.heap.size, 0, none⟩) 4 4) ?_ ⟨_, rfl, hn, has_list u slog _, shape_new _ _ _⟩ (Grw.alloc _ _ _ hn)
        simp [execOp, Act.eval, go_sem]
        rfl
      · have ho := Option.some.inj hi; subst ho
        have h0 : spLit w.heap.size slog (a.tmps[24]?.getD undef) u := ahead_at hA 0 24 (by kernel_rfl) rfl
        obtain ⟨u', hr, hg⟩ := lit_conv h0
        refine st_val (w' := u') rfl rfl (a.tmps[24]?.getD undef) ?_ ((mono_lit _ _) _ _ _ h0 hg) hg
        simp [execOp, Act.eval, hr, go_sem]
      · have ho := Option.some.inj hi; subst ho
        have h0 := tb
        refine st_val (w' := u) rfl rfl (.pointer (some ⟨w.heap.size, 0, none⟩)) ?_ rfl (Grw.refl _ _)
        simp [execOp, Act.eval, h0, go_sem]
      · have ho := Option.some.inj hi; subst ho
        have h0 : a.tmps[26]?.getD undef = .pointer (some ⟨w.heap.size, 0, none⟩) := ahead_at hA 2 26 (by kernel_rfl) rfl
        have f0 := hB.1 0 _ rfl
        refine st_val (w' := u) rfl rfl (.int .i64 (H 0)) ?_ rfl (Grw.refl _ _)
        simp [execOp, Act.eval, h0, f0, go_sem]
      · have ho := Option.some.inj hi; subst ho
        have h0 : a.tmps[27]?.getD undef = .int .i64 (H 0) := ahead_at hA 3 27 (by kernel_rfl) rfl
        refine st_val (w' := u.alloc (.cells ([H 0].map (Value.int .i64)).toArray 3)) rfl rfl (.slice (some ⟨u.heap.size, 0, none⟩) 1 1) ?_ ⟨_, _, rfl, ihas_list u [H 0]⟩ (Grw.alloc _ _ _ hn)
        simp [execOp, Act.eval, h0, go_sem]
      · have ho := Option.some.inj hi; subst ho
        have h0 : spInts [H 0] (a.tmps[28]?.getD undef) u := ahead_at hA 4 28 (by kernel_rfl) rfl
        refine st_call rfl rfl 137 #[.int .i64 (4 : Nat), a.tmps[28]?.getD undef] ?_ hn (numbers_sp 4 (.inr (.inr rfl)) [H 0] _ u h0 (by simp) H4.out 4 rfl)
        simp [execOp, Act.eval, go_sem]
      · have ho := Option.some.inj hi; subst ho
        have h0 := tb
        refine st_val (w' := u) rfl rfl (.pointer (some ⟨w.heap.size, 1, none⟩)) ?_ rfl (Grw.refl _ _)
        simp [execOp, Act.eval, h0, go_sem]
      · have ho := Option.some.inj hi; subst ho
        have h0 : a.tmps[30]?.getD undef = .pointer (some ⟨w.heap.size, 1, none⟩) := ahead_at hA 6 30 (by kernel_rfl) rfl
        have f0 := hB.1 1 _ rfl
        refine st_val (w' := u) rfl rfl (.int .i64 (H 1)) ?_ rfl (Grw.refl _ _)
        simp [execOp, Act.eval, h0, f0, go_sem]
      · have ho := Option.some.inj hi; subst ho
        have h0 := tb
        refine st_val (w' := u) rfl rfl (.pointer (some ⟨w.heap.size, 2, none⟩)) ?_ rfl (Grw.refl _ _)
        simp [execOp, Act.eval, h0, go_sem]
      · have ho := Option.some.inj hi; subst ho
        have h0 : a.tmps[32]?.getD undef = .pointer (some ⟨w.heap.size, 2, none⟩) := ahead_at hA 8 32 (by kernel_rfl) rfl
        have f0 := hB.1 2 _ rfl
        refine st_val (w' := u) rfl rfl (.int .i64 (H 2)) ?_ rfl (Grw.refl _ _)
        simp [execOp, Act.eval, h0, f0, go_sem]
      · have ho := Option.some.inj hi; subst ho
        have h0 : a.tmps[31]?.getD undef = .int .i64 (H 1) := ahead_at hA 7 31 (by kernel_rfl) rfl
        have h1 : a.tmps[33]?.getD undef = .int .i64 (H 2) := ahead_at hA 9 33 (by kernel_rfl) rfl
        refine st_val (w' := u.alloc (.cells ([H 1, H 2].map (Value.int .i64)).toArray 3)) rfl rfl (.slice (some ⟨u.heap.size, 0, none⟩) 2 2) ?_ ⟨_, _, rfl, ihas_list u [H 1, H 2]⟩ (Grw.alloc _ _ _ hn)
        simp [execOp, Act.eval, h0, h1, go_sem]
      · have ho := Option.some.inj hi; subst ho
        have h0 : spInts [H 1, H 2] (a.tmps[34]?.getD undef) u := ahead_at hA 10 34 (by kernel_rfl) rfl
        refine st_call rfl rfl 137 #[.int .i64 (2 : Nat), a.tmps[34]?.getD undef] ?_ hn (numbers_sp 2 (.inr (.inl rfl)) [H 1, H 2] _ u h0 (by simp) H2.out 4 rfl)
        simp [execOp, Act.eval, go_sem]
      · have ho := Option.some.inj hi; subst ho
        obtain ⟨p0, e0, _, b0, _⟩ : spLit w.heap.size slog (a.tmps[25]?.getD undef) u := ahead_at hA 1 25 (by kernel_rfl) rfl
        obtain ⟨p1, c1, e1, b1, _, _⟩ : spBytes 4 (numsB 4 [H 0]) (a.tmps[29]?.getD undef) u := ahead_at hA 5 29 (by kernel_rfl) rfl
        obtain ⟨p2, c2, e2, b2, _, _⟩ : spBytes 4 (numsB 2 [H 1, H 2]) (a.tmps[35]?.getD undef) u := ahead_at hA 11 35 (by kernel_rfl) rfl
        have hp := phas_list u [(some ⟨p0, 0, none⟩, 4, 4, slog), (p1, 4, c1, (numsB 4 [H 0])), (p2, 4, c2, (numsB 2 [H 1, H 2]))] (by
          intro p hp
          simp only [List.mem_cons, List.not_mem_nil, or_false] at hp
          rcases hp with rfl | rfl | rfl
          · exact b0
          · exact b1
          · exact b2)
        refine st_val (w' := u.alloc (.cells ([(some ⟨p0, 0, none⟩, 4, 4, slog), (p1, 4, c1, (numsB 4 [H 0])), (p2, 4, c2, (numsB 2 [H 1, H 2]))].map pv).toArray 50)) rfl rfl (.slice (some ⟨u.heap.size, 0, none⟩) 3 3) ?_ ⟨_, _, _, rfl, hp, by simp [allP, hdrH, slog]⟩ (Grw.alloc _ _ _ hn)
        simp [execOp, Act.eval, e0, e1, e2, go_sem]
        all_goals rfl
      · have ho := Option.some.inj hi; subst ho
        have h0 : spParts 3 (hdrH H) (a.tmps[36]?.getD undef) u := ahead_at hA 12 36 (by kernel_rfl) rfl
        refine st_call rfl rfl 136 #[.int .i64 ((12 : Nat) : Int), a.tmps[36]?.getD undef] ?_ hn ((lay_sp (12) 3 (hdrH H) _ u h0 (by omega) (by rw [hdrH_length]; omega) (by omega) (hdrH_byts H)).mono fun e w' ⟨v, e1, h1, h2⟩ => ⟨v, e1, h1.1, h2⟩)
        simp [execOp, Act.eval, go_sem]
      · have ho := Option.some.inj hi; subst ho
        have h0 : spBytes 12 (layB 12 (hdrH H)) (a.tmps[37]?.getD undef) u := ahead_at hA 13 37 (by kernel_rfl) rfl
        refine st_val (w' := u) rfl rfl (a.tmps[37]?.getD undef) ?_ h0 (Grw.refl _ _)
        simp [execOp, Act.eval, go_sem]
    · intro a u hF hR hG
      have q0 := fr_at hF 0 (by kernel_rfl)
      have q1 := fr_at hF 1 (by kernel_rfl)
      have q2 := fr_at hF 2 (by kernel_rfl)
      have q3 := fr_at hF 3 (by kernel_rfl)
      have q4 := fr_at hF 4 (by kernel_rfl)
      have q5 := fr_at hF 5 (by kernel_rfl)
      obtain ⟨r0, r1, r2, r3, r4, r5⟩ : spBytes 12 (layB 12 (hdrH H)) (a.tmps[6]?.getD undef) u := by have := hR 14 _ 6 rfl rfl; rwa [Array.getD_eq_getD_getElem?] at this
      have hB := HK.out.drew.grw hG
      obtain ⟨tm, df⟩ := a
      obtain ⟨hs, hdf, _⟩ := hF
      have hs' : tm.size = 41 := hs
      have hdf' : df = [] := hdf
      subst hdf'
      have he : tm = #[tm[0]?.getD undef, tm[1]?.getD undef, tm[2]?.getD undef, tm[3]?.getD undef, tm[4]?.getD undef, tm[5]?.getD undef, tm[6]?.getD undef, tm[7]?.getD undef, tm[8]?.getD undef, tm[9]?.getD undef, tm[10]?.getD undef, tm[11]?.getD undef, tm[12]?.getD undef, tm[13]?.getD undef, tm[14]?.getD undef, tm[15]?.getD undef, tm[16]?.getD undef, tm[17]?.getD undef, tm[18]?.getD undef, tm[19]?.getD undef, tm[20]?.getD undef, tm[21]?.getD undef, tm[22]?.getD undef, tm[23]?.getD undef, tm[24]?.getD undef, tm[25]?.getD undef, tm[26]?.getD undef, tm[27]?.getD undef, tm[28]?.getD undef, tm[29]?.getD undef, tm[30]?.getD undef, tm[31]?.getD undef, tm[32]?.getD undef, tm[33]?.getD undef, tm[34]?.getD undef, tm[35]?.getD undef, tm[36]?.getD undef, tm[37]?.getD undef, tm[38]?.getD undef, tm[39]?.getD undef, tm[40]?.getD undef] := tmps_eq tm 41 hs'
      simp at q0
      simp at q1
      simp at q2
      simp at q3
      simp at q4
      simp at q5
      rw [he]
      simp only [q0, q1, q2, q3, q4, q5, r2]
      clear he hR hG hs hs' hdf q0 q1 q2 q3 q4 q5 r2
      go_wp2_with fail
      go_meet
      exact ⟨r0, r1, rfl, by rw [layB_full (hdrH_length H)] at r3; exact r3, hB⟩
  case rest =>
    obtain ⟨a0, c0, rfl, hh, hB⟩ := hcut
    clear HK
    go_wp2_with fail
    go_at_call 138
    refine (unhide KS a0 c0 wc hB.out.2.1 hh.out).mono ?_
    rintro e w4 ⟨g, rfl, hg, hBl, hb⟩
    have HB := hide (bchain hB.out.2.1 hb (Nat.le_refl _))
    have hg' : w.heap.size ≤ g := Nat.le_trans hB.out.2.1.size hg
    clear KS hB hh hb
    go_wp2_with fail
    go_ret2
    exact ⟨g, rfl, hg', hBl, HB.out⟩

end Go.Proofs.YtadnlljknocbbaaGreatDoor

/- Contracts of codec.Desc. -/
namespace Go.Proofs.YtadnlljknocbbaaGreatDoor
open Go.RowKit Go.Shelf
set_option linter.unusedVariables false
set_option maxRecDepth 100000

/-- Do a descriptor's numbers fit? -/
def descF (q : Int) (ns : List Int) : Bool := fitB 4 [q] && fitB 2 ns

/-- What stands behind a descriptor's sum. -/
def descR (b : Nat) (q : Int) (ns : List Int) : List Int := layB (b - 4) (numsB 4 [q] ++ (numsB 2 [(ns.length : Int)] ++ numsB 2 ns))

/-- A descriptor's bytes. -/
def descB (b : Nat) (q : Int) (ns : List Int) : List Int := layB b (digits 4 ((sumS (descR b q ns) : Nat) : Int) ++ descR b q ns)

/-- A descriptor's error. -/
def descE (b : Int) (q : Int) (ns : List Int) : Int := if (b = 64 ∨ b = 128 ∨ b = 256 ∨ b = 512 ∨ b = 1024 ∨ b = 2048 ∨ b = 4096) then (if descF q ns = true then (if (b - 10) / 2 < (ns.length : Int) then 5 else 0) else 3) else 1

theorem descR_length {b : Nat} {q : Int} {ns : List Int} (h : 10 + 2 * ns.length ≤ b) : (descR b q ns).length = b - 4 :=
  length_layB (by rw [List.length_append, List.length_append, length_numsB, length_numsB, length_numsB]; simp; omega)

theorem descB_length {b : Nat} {q : Int} {ns : List Int} (h : 10 + 2 * ns.length ≤ b) : (descB b q ns).length = b :=
  length_layB (by rw [List.length_append, length_digits, descR_length h]; omega)

theorem descR_byts (b : Nat) (q : Int) (ns : List Int) : Byts (descR b q ns) := by
  refine layB_byte _ _ fun z hz => ?_
  simp only [List.mem_append] at hz
  rcases hz with hz | hz | hz
  all_goals exact numsB_byte _ _ z hz

theorem descB_byts (b : Nat) (q : Int) (ns : List Int) : Byts (descB b q ns) := by
  refine layB_byte _ _ fun z hz => ?_
  rcases List.mem_append.1 hz with hz | hz
  · exact digits_byte _ _ z hz
  · exact descR_byts b q ns z hz

set_option maxRecDepth 100000 in
set_option maxHeartbeats 2000000 in
theorem desc_arg (q : Int) (a : Option Addr) (len cap : Nat) (ns : List Int) (b : Int) (w : World) (h : ¬ isSize b) :
    Calls Tryz.prog 141 #[.int .i64 q, .slice a len cap, .int .i64 b] w fun e w' => e = .returned (.tuple #[.slice none 0 0, .int .i64 1]) ∧ Below w.heap.size w w' := by
  have K : Hid (∀ u, Calls Tryz.prog 134 #[.int .i64 b] u fun e w' => e = .returned (.bool false) ∧ Below u.heap.size u w') := fun u => cblock_no b u h
  clear h
  go_enter Tryz.func141, Tryz.ntmps141
  go_wp2_with fail
  go_at_call 134
  refine (unhide K _).mono ?_
  rintro e w1 ⟨rfl, hb⟩
  have HB := hide hb
  clear K hb
  go_wp2_with fail
  go_ret2
  exact ⟨rfl, HB.out⟩

set_option maxRecDepth 100000 in
set_option maxHeartbeats 2000000 in
theorem desc_v4 (q : Int) (a : Option Addr) (len cap : Nat) (ns : List Int) (b : Int) (w : World) (h : isSize b) (h4 : fitB 4 [q] = false) :
    Calls Tryz.prog 141 #[.int .i64 q, .slice a len cap, .int .i64 b] w fun e w' => e = .returned (.tuple #[.slice none 0 0, .int .i64 3]) ∧ Below w.heap.size w w' := by
  have K : Hid (∀ u, Calls Tryz.prog 134 #[.int .i64 b] u fun e w' => e = .returned (.bool true) ∧ Below u.heap.size u w') := fun u => cblock_yes b u h
  have F4 : Hid (∀ u : World, Calls Tryz.prog 135 #[.int .i64 4, .slice (some ⟨u.heap.size, 0, none⟩) 1 1] (u.alloc (.cells #[.int .i64 q] 3)) fun e w' => e = .returned (.bool false) ∧ Below u.heap.size u w') :=
    fun u => fit_list 4 (.inr rfl) [q] u (by simp) _ h4
  clear h h4
  go_enter Tryz.func141, Tryz.ntmps141
  go_wp2_with fail
  go_at_call 134
  refine (unhide K _).mono ?_
  rintro e w1 ⟨rfl, hb⟩
  have HB := hide hb
  clear K hb
  go_wp2_with fail
  go_at_call 135
  refine (unhide F4 _).mono ?_
  rintro e w2 ⟨rfl, hb⟩
  replace HB := hide (bchain HB.out hb (Nat.le_refl _))
  clear F4 hb
  go_wp2_with fail
  go_ret2
  exact ⟨rfl, HB.out⟩

set_option maxRecDepth 100000 in
set_option maxHeartbeats 2000000 in
theorem desc_v2 (q : Int) (a : Option Addr) (len cap : Nat) (ns : List Int) (b : Int) (w : World) (h : isSize b) (hi : IHas w a len ns) (hl : len ≤ 17592186043904) (h4 : fitB 4 [q] = true) (h2 : fitB 2 ns = false) :
    Calls Tryz.prog 141 #[.int .i64 q, .slice a len cap, .int .i64 b] w fun e w' => e = .returned (.tuple #[.slice none 0 0, .int .i64 3]) ∧ Below w.heap.size w w' := by
  have K : Hid (∀ u, Calls Tryz.prog 134 #[.int .i64 b] u fun e w' => e = .returned (.bool true) ∧ Below u.heap.size u w') := fun u => cblock_yes b u h
  have F4 : Hid (∀ u : World, Calls Tryz.prog 135 #[.int .i64 4, .slice (some ⟨u.heap.size, 0, none⟩) 1 1] (u.alloc (.cells #[.int .i64 q] 3)) fun e w' => e = .returned (.bool true) ∧ Below u.heap.size u w') :=
    fun u => fit_list 4 (.inr rfl) [q] u (by simp) _ h4
  have F2 : Hid (∀ u : World, Below w.heap.size w u → Calls Tryz.prog 135 #[.int .i64 2, .slice a len cap] u fun e w' => e = .returned (.bool false) ∧ u = w') :=
    fun u hb => by have := fit_any 2 (.inl rfl) a len cap ns u (hi.later hb) (by omega); rwa [h2] at this
  clear h hi h4 h2
  go_enter Tryz.func141, Tryz.ntmps141
  go_wp2_with fail
  go_at_call 134
  refine (unhide K _).mono ?_
  rintro e w1 ⟨rfl, hb⟩
  have HB := hide hb
  clear K hb
  go_wp2_with fail
  go_at_call 135
  refine (unhide F4 _).mono ?_
  rintro e w2 ⟨rfl, hb⟩
  replace HB := hide (bchain HB.out hb (Nat.le_refl _))
  clear F4 hb
  go_wp2_with fail
  go_at_call 135
  refine (unhide F2 _ HB.out).mono ?_
  rintro e w' ⟨rfl, rfl⟩
  clear F2
  go_wp2_with fail
  go_ret2
  exact ⟨rfl, HB.out⟩

set_option maxRecDepth 100000 in
set_option maxHeartbeats 2000000 in
theorem desc_large (q : Int) (a : Option Addr) (len cap : Nat) (ns : List Int) (b : Int) (w : World) (h : isSize b) (hi : IHas w a len ns) (hl : len ≤ 17592186043904) (h4 : fitB 4 [q] = true) (h2 : fitB 2 ns = true) (hn : (b - 10) / 2 < (len : Int)) :
    Calls Tryz.prog 141 #[.int .i64 q, .slice a len cap, .int .i64 b] w fun e w' => e = .returned (.tuple #[.slice none 0 0, .int .i64 5]) ∧ Below w.heap.size w w' := by
  have hbd := size_bd h
  have K : Hid (∀ u, Calls Tryz.prog 134 #[.int .i64 b] u fun e w' => e = .returned (.bool true) ∧ Below u.heap.size u w') := fun u => cblock_yes b u h
  have F4 : Hid (∀ u : World, Calls Tryz.prog 135 #[.int .i64 4, .slice (some ⟨u.heap.size, 0, none⟩) 1 1] (u.alloc (.cells #[.int .i64 q] 3)) fun e w' => e = .returned (.bool true) ∧ Below u.heap.size u w') :=
    fun u => fit_list 4 (.inr rfl) [q] u (by simp) _ h4
  have F2 : Hid (∀ u : World, Below w.heap.size w u → Calls Tryz.prog 135 #[.int .i64 2, .slice a len cap] u fun e w' => e = .returned (.bool true) ∧ u = w') :=
    fun u hb => by have := fit_any 2 (.inl rfl) a len cap ns u (hi.later hb) (by omega); rwa [h2] at this
  have hq1 : decide ((len : Int) > (b - 10) / 2) = true := by simpa using hn
  have hq2 : decide ((len : Int) > Int.tdiv (b - 10) 2) = true := by rw [Int.tdiv_eq_ediv_of_nonneg (by omega)]; exact hq1
  clear h hi h4 h2 hn
  go_enter Tryz.func141, Tryz.ntmps141
  go_wp2_with fail
  go_at_call 134
  refine (unhide K _).mono ?_
  rintro e w1 ⟨rfl, hb⟩
  have HB := hide hb
  clear K hb
  go_wp2_with fail
  go_at_call 135
  refine (unhide F4 _).mono ?_
  rintro e w2 ⟨rfl, hb⟩
  replace HB := hide (bchain HB.out hb (Nat.le_refl _))
  clear F4 hb
  go_wp2_with fail
  go_at_call 135
  refine (unhide F2 _ HB.out).mono ?_
  rintro e w' ⟨rfl, rfl⟩
  clear F2
  go_wp2_with fail
  go_ret2
  exact ⟨rfl, HB.out⟩

theorem numbers_new (wd : Nat) (hw : wd = 1 ∨ wd = 2 ∨ wd = 4) (z : Int) (hf : fitB wd [z] = true) (u : World) (g : Nat) (hg : g = u.heap.size) :
    Calls Tryz.prog 137 #[.int .i64 (wd : Int), .slice (some ⟨g, 0, none⟩) 1 1] (u.alloc (.cells #[.int .i64 z] 3)) fun e w' => ∃ a c, e = .returned (.slice a wd c) ∧ Hid (Has w' a wd (numsB wd [z])) ∧ Below u.heap.size u w' := by
  subst hg
  refine (numbers_any wd hw _ 1 1 [z] _ (ihas_list u [z]) (by omega) hf wd (by simp)).mono ?_
  rintro e w' ⟨a', c', rfl, hO, hb⟩
  exact ⟨a', c', rfl, hO.out.has, bchain ((Below.refl _ u).alloc (Nat.le_refl _) _) hb (Nat.le_refl _)⟩

theorem lay_three (size : Nat) (u : World) (g : Nat) (hg : g = u.heap.size) (p0 p1 p2 : Option Addr) (n0 n1 n2 c0 c1 c2 : Nat) (x0 x1 x2 : List Int) (h0 : Has u p0 n0 x0) (h1 : Has u p1 n1 x1) (h2 : Has u p2 n2 x2) (hs : n0 + n1 + n2 ≤ size) (hsz : size ≤ 65536) :
    Calls Tryz.prog 136 #[.int .i64 (size : Int), .slice (some ⟨g, 0, none⟩) 3 3] (u.alloc (.cells #[.slice p0 n0 c0, .slice p1 n1 c1, .slice p2 n2 c2] 50)) fun e w' => ∃ g2, e = .returned (.slice (some ⟨g2, 0, none⟩) size size) ∧ Hid (Has w' (some ⟨g2, 0, none⟩) size (layB size (x0 ++ (x1 ++ x2)))) ∧ Below u.heap.size u w' := by
  subst hg
  have hp := phas_list u [(p0, n0, c0, x0), (p1, n1, c1, x1), (p2, n2, c2, x2)] (by
    intro p hp
    simp at hp
    rcases hp with rfl | rfl | rfl
    · exact h0
    · exact h1
    · exact h2)
  have hall : allP [(p0, n0, c0, x0), (p1, n1, c1, x1), (p2, n2, c2, x2)] = x0 ++ (x1 ++ x2) := by simp [allP]
  have hle : (x0 ++ (x1 ++ x2)).length ≤ size := by
    rw [List.length_append, List.length_append, h0.1, h1.1, h2.1]; omega
  refine (clay_any size _ 3 3 _ _ hp (by omega) (by rw [hall]; exact hle) (by omega)).mono ?_
  rintro e w' ⟨rfl, hB, hb⟩
  rw [hall] at hB
  exact ⟨_, rfl, hB.out.has (length_layB hle), bchain ((Below.refl _ u).alloc (Nat.le_refl _) _) hb (Nat.le_refl _)⟩

theorem lay_two (size : Nat) (u : World) (g : Nat) (hg : g = u.heap.size) (p0 p1 : Option Addr) (n0 n1 c0 c1 : Nat) (x0 x1 : List Int) (h0 : Has u p0 n0 x0) (h1 : Has u p1 n1 x1) (hs : n0 + n1 ≤ size) (hsz : size ≤ 65536) :
    Calls Tryz.prog 136 #[.int .i64 (size : Int), .slice (some ⟨g, 0, none⟩) 2 2] (u.alloc (.cells #[.slice p0 n0 c0, .slice p1 n1 c1] 50)) fun e w' => ∃ g2, e = .returned (.slice (some ⟨g2, 0, none⟩) size size) ∧ u.heap.size ≤ g2 ∧ Hid (Block w' g2 (layB size (x0 ++ x1))) ∧ Below u.heap.size u w' := by
  subst hg
  have hp := phas_list u [(p0, n0, c0, x0), (p1, n1, c1, x1)] (by
    intro p hp
    simp at hp
    rcases hp with rfl | rfl
    · exact h0
    · exact h1)
  have hall : allP [(p0, n0, c0, x0), (p1, n1, c1, x1)] = x0 ++ x1 := by simp [allP]
  have hle : (x0 ++ x1).length ≤ size := by rw [List.length_append, h0.1, h1.1]; omega
  refine (clay_any size _ 2 2 _ _ hp (by omega) (by rw [hall]; exact hle) (by omega)).mono ?_
  rintro e w' ⟨rfl, hB, hb⟩
  rw [hall] at hB
  exact ⟨_, rfl, by simp, hB.out, bchain ((Below.refl _ u).alloc (Nat.le_refl _) _) hb (Nat.le_refl _)⟩

set_option maxRecDepth 100000 in
set_option maxHeartbeats 4000000 in
theorem desc_good (q : Int) (a : Option Addr) (len cap : Nat) (ns : List Int) (b : Nat) (w : World) (h : isSize (b : Int)) (hi : IHas w a len ns) (h4 : fitB 4 [q] = true) (h2 : fitB 2 ns = true) (hn : 10 + 2 * len ≤ b) (hT : Tab w) :
    Calls Tryz.prog 141 #[.int .i64 q, .slice a len cap, .int .i64 (b : Int)] w fun e w' => ∃ g, e = .returned (.tuple #[.slice (some ⟨g, 0, none⟩) b b, .int .i64 0]) ∧ w.heap.size ≤ g ∧ Hid (Block w' g (descB b q ns)) ∧ Below w.heap.size w w' := by
  have hbd := size_bd h
  have hlen := hi.1
  have hq1 : decide ((len : Int) > ((b : Int) - 10) / 2) = false := by simp; omega
  have hq2 : decide ((len : Int) > Int.tdiv ((b : Int) - 10) 2) = false := by rw [Int.tdiv_eq_ediv_of_nonneg (by omega)]; exact hq1
  have K : Hid (∀ u, Calls Tryz.prog 134 #[.int .i64 (b : Int)] u fun e w' => e = .returned (.bool true) ∧ Below u.heap.size u w') := fun u => cblock_yes b u h
  have F4 : Hid (∀ u : World, Calls Tryz.prog 135 #[.int .i64 4, .slice (some ⟨u.heap.size, 0, none⟩) 1 1] (u.alloc (.cells #[.int .i64 q] 3)) fun e w' => e = .returned (.bool true) ∧ Below u.heap.size u w') :=
    fun u => fit_list 4 (.inr rfl) [q] u (by simp) _ h4
  have F2 : Hid (∀ u : World, Below w.heap.size w u → Calls Tryz.prog 135 #[.int .i64 2, .slice a len cap] u fun e w' => e = .returned (.bool true) ∧ u = w') :=
    fun u hb => by have := fit_any 2 (.inl rfl) a len cap ns u (hi.later hb) (by omega); rwa [h2] at this
  have N1 : Hid (∀ (u : World) (g : Nat), g = u.heap.size → Calls Tryz.prog 137 #[.int .i64 4, .slice (some ⟨g, 0, none⟩) 1 1] (u.alloc (.cells #[.int .i64 q] 3)) fun e w' => ∃ a c, e = .returned (.slice a 4 c) ∧ Hid (Has w' a 4 (numsB 4 [q])) ∧ Below u.heap.size u w') := fun u g hg => numbers_new 4 (.inr (.inr rfl)) q h4 u g hg
  have N2 : Hid (∀ (u : World) (g : Nat), g = u.heap.size → Calls Tryz.prog 137 #[.int .i64 2, .slice (some ⟨g, 0, none⟩) 1 1] (u.alloc (.cells #[.int .i64 (len : Int)] 3)) fun e w' => ∃ a c, e = .returned (.slice a 2 c) ∧ Hid (Has w' a 2 (numsB 2 [(len : Int)])) ∧ Below u.heap.size u w') := fun u g hg => numbers_new 2 (.inr (.inl rfl)) (len : Int) (by rw [fitB_iff]; intro v hv; simp at hv; omega) u g hg
  obtain ⟨M, hM⟩ : ∃ M, M = 2 * len := ⟨_, rfl⟩
  have N3 : Hid (∀ u : World, Below w.heap.size w u → Calls Tryz.prog 137 #[.int .i64 2, .slice a len cap] u fun e w' => ∃ a c, e = .returned (.slice a M c) ∧ Hid (Has w' a M (numsB 2 ns)) ∧ Below u.heap.size u w') := fun u hb => by
    refine (numbers_any 2 (.inr (.inl rfl)) a len cap ns u (hi.later hb) (by omega) h2 M hM).mono ?_
    rintro e w' ⟨a', c', rfl, hO, hb'⟩
    exact ⟨a', c', rfl, hO.out.has, hb'⟩
  obtain ⟨D, hD⟩ : ∃ D : Nat, D = b - 4 := ⟨_, rfl⟩
  have hDi : (b : Int) - 4 = (D : Int) := by omega
  have hR : layB D (numsB 4 [q] ++ (numsB 2 [(len : Int)] ++ numsB 2 ns)) = descR b q ns := by rw [descR, hD, hlen]
  have L1 : Hid (∀ (u : World) (g : Nat) (p0 p1 p2 : Option Addr) (c0 c1 c2 : Nat), g = u.heap.size → Has u p0 4 (numsB 4 [q]) → Has u p1 2 (numsB 2 [(len : Int)]) → Has u p2 M (numsB 2 ns) → Calls Tryz.prog 136 #[.int .i64 (D : Int), .slice (some ⟨g, 0, none⟩) 3 3] (u.alloc (.cells #[.slice p0 4 c0, .slice p1 2 c1, .slice p2 M c2] 50)) fun e w' => ∃ g2, e = .returned (.slice (some ⟨g2, 0, none⟩) D D) ∧ Hid (Has w' (some ⟨g2, 0, none⟩) D (descR b q ns)) ∧ Below u.heap.size u w') := fun u g p0 p1 p2 c0 c1 c2 hg x0 x1 x2 => by
    have := lay_three D u g hg p0 p1 p2 4 2 M c0 c1 c2 _ _ _ x0 x1 x2 (by omega) (by omega)
    rwa [hR] at this
  have KS : Hid (∀ u g, Below w.heap.size w u → Has u (some ⟨g, 0, none⟩) D (descR b q ns) → Calls Tryz.prog 160 #[.slice (some ⟨g, 0, none⟩) D D] u fun e w' => e = .returned (.int .i64 ((sumS (descR b q ns) : Nat) : Int)) ∧ u = w') := fun u g hb hh => sum_any _ D D _ u (hT.below hb (tab_size hT)) hh (by omega) (descR_byts b q ns)
  have hfs := fitB_sum (descR_byts b q ns)
  have HQ : Hid (descB b q ns = layB b (numsB 4 [((sumS (descR b q ns) : Nat) : Int)] ++ descR b q ns)) := by rw [numsB_one]; rfl
  generalize descR b q ns = R at *
  generalize sumS R = S at *
  have N4 : Hid (∀ (u : World) (g : Nat), g = u.heap.size → Calls Tryz.prog 137 #[.int .i64 4, .slice (some ⟨g, 0, none⟩) 1 1] (u.alloc (.cells #[.int .i64 (S : Int)] 3)) fun e w' => ∃ a c, e = .returned (.slice a 4 c) ∧ Hid (Has w' a 4 (numsB 4 [(S : Int)])) ∧ Below u.heap.size u w') := fun u g hg => numbers_new 4 (.inr (.inr rfl)) _ hfs u g hg
  have L2 : Hid (∀ (u : World) (g : Nat) (p0 p1 : Option Addr) (c0 c1 : Nat), g = u.heap.size → Has u p0 4 (numsB 4 [(S : Int)]) → Has u p1 D R → Calls Tryz.prog 136 #[.int .i64 (b : Int), .slice (some ⟨g, 0, none⟩) 2 2] (u.alloc (.cells #[.slice p0 4 c0, .slice p1 D c1] 50)) fun e w' => ∃ g2, e = .returned (.slice (some ⟨g2, 0, none⟩) b b) ∧ u.heap.size ≤ g2 ∧ Hid (Block w' g2 (descB b q ns)) ∧ Below u.heap.size u w') := fun u g p0 p1 c0 c1 hg x0 x1 => by
    have := lay_two b u g hg p0 p1 4 D c0 c1 _ _ x0 x1 (by omega) (by omega)
    rwa [← HQ.out] at this
  clear h hi h4 h2 hn hT hlen hM hD hR hfs HQ
  go_enter Tryz.func141, Tryz.ntmps141
  go_wp2_with fail
  go_at_call 134
  refine (unhide K _).mono ?_
  rintro e w1 ⟨rfl, hb⟩
  have HB := hide hb
  clear K hb
  go_wp2_with fail
  go_at_call 135
  refine (unhide F4 _).mono ?_
  rintro e w2 ⟨rfl, hb⟩
  replace HB := hide (bchain HB.out hb (Nat.le_refl _))
  clear F4 hb
  go_wp2_with fail
  go_at_call 135
  refine (unhide F2 _ HB.out).mono ?_
  rintro e w' ⟨rfl, rfl⟩
  clear F2
  go_wp2_with fail
  go_at_call 137
  refine (unhide N1 _ _ rfl).mono ?_
  rintro e w3 ⟨a3, c3, rfl, x3, hb⟩
  replace HB := hide (bchain HB.out hb (Nat.le_refl _))
  clear N1 hb
  go_wp2_with fail
  go_at_call 137
  refine (unhide N2 _ _ rfl).mono ?_
  rintro e w4 ⟨a4, c4, rfl, x4, hb⟩
  replace HB := hide (bchain HB.out hb (Nat.le_refl _))
  replace x3 := hide (x3.out.later hb)
  clear N2 hb
  go_wp2_with fail
  go_at_call 137
  refine (unhide N3 _ HB.out).mono ?_
  rintro e w5 ⟨a5, c5, rfl, x5, hb⟩
  replace HB := hide (bchain HB.out hb (Nat.le_refl _))
  replace x3 := hide (x3.out.later hb)
  replace x4 := hide (x4.out.later hb)
  clear N3 hb
  go_wp2_with fail
  go_at_call 136
  refine (unhide L1 _ _ _ _ _ _ _ _ rfl x3.out x4.out x5.out).mono ?_
  rintro e w6 ⟨g6, rfl, x6, hb⟩
  replace HB := hide (bchain HB.out hb (Nat.le_refl _))
  clear L1 hb x3 x4 x5
  go_wp2_with fail
  go_at_call 160
  refine (unhide KS _ _ HB.out x6.out).mono ?_
  rintro e w' ⟨rfl, rfl⟩
  clear KS
  go_wp2_with fail
  go_at_call 137
  refine (unhide N4 _ _ rfl).mono ?_
  rintro e w7 ⟨a7, c7, rfl, x7, hb⟩
  replace HB := hide (bchain HB.out hb (Nat.le_refl _))
  replace x6 := hide (x6.out.later hb)
  clear N4 hb
  go_wp2_with fail
  go_at_call 136
  refine (unhide L2 _ _ _ _ _ _ rfl x7.out x6.out).mono ?_
  rintro e w8 ⟨g8, rfl, hg8, x8, hb⟩
  have hg : Hid (w.heap.size ≤ g8) := Nat.le_trans HB.out.size hg8
  replace HB := hide (bchain HB.out hb (Nat.le_refl _))
  clear L2 hb x6 x7 hg8
  go_wp2_with fail
  go_ret2
  exact ⟨g8, rfl, hg.out, x8, HB.out⟩

theorem desc_value (q : Int) (a : Option Addr) (len cap : Nat) (ns : List Int) (b : Int) (w : World) (h : isSize b) (hi : IHas w a len ns) (hl : len ≤ 17592186043904) (hf : descF q ns = false) :
    Calls Tryz.prog 141 #[.int .i64 q, .slice a len cap, .int .i64 b] w fun e w' => e = .returned (.tuple #[.slice none 0 0, .int .i64 3]) ∧ Below w.heap.size w w' := by
  unfold descF at hf
  by_cases h4 : fitB 4 [q] = true
  · exact desc_v2 q a len cap ns b w h hi hl h4 (by rw [h4] at hf; simpa using hf)
  · exact desc_v4 q a len cap ns b w h (by simpa using h4)

theorem desc_err (q : Int) (a : Option Addr) (len cap : Nat) (ns : List Int) (b : Int) (w : World) (hi : IHas w a len ns) (hl : len ≤ 17592186043904) (he : descE b q ns ≠ 0) :
    Calls Tryz.prog 141 #[.int .i64 q, .slice a len cap, .int .i64 b] w fun e w' => e = .returned (.tuple #[.slice none 0 0, .int .i64 (descE b q ns)]) ∧ Below w.heap.size w w' := by
  have hlen := hi.1
  unfold descE at he ⊢
  by_cases h : isSize b
  · rw [if_pos (show (b = 64 ∨ b = 128 ∨ b = 256 ∨ b = 512 ∨ b = 1024 ∨ b = 2048 ∨ b = 4096) from h)] at he ⊢
    by_cases hf : descF q ns = true
    · rw [if_pos hf] at he ⊢
      by_cases hn : (b - 10) / 2 < (ns.length : Int)
      · rw [if_pos hn]
        unfold descF at hf
        rw [Bool.and_eq_true] at hf
        exact desc_large q a len cap ns b w h hi hl hf.1 hf.2 (by rw [← hlen]; exact hn)
      · rw [if_neg hn] at he; exact absurd rfl he
    · rw [if_neg hf]
      exact desc_value q a len cap ns b w h hi hl (by simpa using hf)
  · rw [if_neg (show ¬ (b = 64 ∨ b = 128 ∨ b = 256 ∨ b = 512 ∨ b = 1024 ∨ b = 2048 ∨ b = 4096) from h)]
    exact desc_arg q a len cap ns b w h

/-- **codec.Desc**. -/
theorem desc_ok (q : Int) (a : Option Addr) (len cap : Nat) (ns : List Int) (b : Nat) (w : World) (hi : IHas w a len ns) (hT : Tab w) (he : descE (b : Int) q ns = 0) :
    Calls Tryz.prog 141 #[.int .i64 q, .slice a len cap, .int .i64 (b : Int)] w fun e w' => ∃ g, e = .returned (.tuple #[.slice (some ⟨g, 0, none⟩) b b, .int .i64 0]) ∧ w.heap.size ≤ g ∧ Hid (Block w' g (descB b q ns)) ∧ Below w.heap.size w w' := by
  have hlen := hi.1
  unfold descE at he
  by_cases h : isSize (b : Int)
  · have hbd := size_bd h
    rw [if_pos (show ((b : Int) = 64 ∨ (b : Int) = 128 ∨ (b : Int) = 256 ∨ (b : Int) = 512 ∨ (b : Int) = 1024 ∨ (b : Int) = 2048 ∨ (b : Int) = 4096) from h)] at he
    by_cases hf : descF q ns = true
    · rw [if_pos hf] at he
      by_cases hn : ((b : Int) - 10) / 2 < (ns.length : Int)
      · rw [if_pos hn] at he; omega
      · unfold descF at hf
        rw [Bool.and_eq_true] at hf
        exact desc_good q a len cap ns b w h hi hf.1 hf.2 (by omega) hT
    · rw [if_neg hf] at he; omega
  · rw [if_neg (show ¬ ((b : Int) = 64 ∨ (b : Int) = 128 ∨ (b : Int) = 256 ∨ (b : Int) = 512 ∨ (b : Int) = 1024 ∨ (b : Int) = 2048 ∨ (b : Int) = 4096) from h)] at he; omega

end Go.Proofs.YtadnlljknocbbaaGreatDoor

/- Contract of codec.read, of plans. -/
namespace Go.Proofs.YtadnlljknocbbaaGreatDoor
open Go.RowKit Go.Shelf
set_option linter.unusedVariables false
set_option maxRecDepth 100000

def zeroH : Nat → Int := fun _ => 0

set_option maxRecDepth 100000 in
set_option maxHeartbeats 8000000 in
theorem readH_err (H : Nat → Int) (g1 : Nat) (a : Option Addr) (len cap : Nat) (q : Int) (w : World) (hq : (q != 0) = true) (HT : Hid (∀ u, Below w.heap.size w u → Calls Tryz.prog 126 #[.slice a len cap] u fun e w' => e = .returned (Hv H) ∧ Below u.heap.size u w')) (HW : Hid (∀ u, Below w.heap.size w u → Calls Tryz.prog 127 #[Hv H, .pointer (some ⟨g1, 0, none⟩)] u fun e w' => e = .returned (.tuple #[.slice none 0 0, .int .i64 q]) ∧ Below u.heap.size u w')) :
    Calls Tryz.prog 125 #[.slice a len cap, .func (.func 126) #[] #[], .func (.func 127) #[] #[.pointer (some ⟨g1, 0, none⟩)]] w fun e w' => e = .returned (.tuple #[.agg #[.int .i64 0, .int .i64 0, .int .i64 0], .int .i64 4]) ∧ Below w.heap.size w w' := by
  have hb0 : Below w.heap.size w (w.alloc (.cells (#[.int .i64 0, .int .i64 0, .int .i64 0]) 57)) := (Below.refl _ w).alloc (Nat.le_refl _) _
  have HZ := hide (Bl.new w (#[.int .i64 0, .int .i64 0, .int .i64 0]) 57)
  have HB := hide hb0
  clear hb0
  go_enter Tryz.func125, Tryz.ntmps125
  go_wp2_with fail
  go_at_call 126
  refine (unhide HT _ HB.out).mono ?_
  rintro e w1 ⟨rfl, hb⟩
  replace HZ := hide ((HZ.out.call hb).alloc (.cells (Hc H) 57))
  replace HB := hide ((bchain HB.out hb (Nat.le_refl _)).alloc (bchain HB.out hb (Nat.le_refl _)).size (.cells (Hc H) 57))
  have HV := hide (Bl.new w1 (Hc H) 57)
  clear hb HT
  go_wp2_with fail
  go_at_call 127
  refine (unhide HW _ HB.out).mono ?_
  rintro e w2 ⟨rfl, hb⟩
  replace HZ := hide ((HZ.out.call hb).alloc (.cells (#[.int .i64 0, .int .i64 0, .int .i64 0]) 57))
  replace HB := hide ((bchain HB.out hb (Nat.le_refl _)).alloc (bchain HB.out hb (Nat.le_refl _)).size (.cells (#[.int .i64 0, .int .i64 0, .int .i64 0]) 57))
  clear hb HW HV
  have z0 := HZ.out.cell 0 _ rfl
  have z1 := HZ.out.cell 1 _ rfl
  have z2 := HZ.out.cell 2 _ rfl
  have hz := HZ.out.free
  go_wp2_with fail
  have hW : Below w.heap.size w (setAll (w2.alloc (.cells (#[.int .i64 0, .int .i64 0, .int .i64 0]) 57)) w.heap.size 0 [.int .i64 0, .int .i64 0, .int .i64 0]) := below_setAll (Nat.le_refl _) _ _ _ _ HB.out
  have hA : Bl (setAll (w2.alloc (.cells (#[.int .i64 0, .int .i64 0, .int .i64 0]) 57)) w.heap.size 0 [.int .i64 0, .int .i64 0, .int .i64 0]) w.heap.size (#[.int .i64 0, .int .i64 0, .int .i64 0]) 57 := setAll_whole [.int .i64 0, .int .i64 0, .int .i64 0] _ _ HZ.out rfl
  change bodyPost _ _ _ _ _ (setAll (w2.alloc (.cells (#[.int .i64 0, .int .i64 0, .int .i64 0]) 57)) w.heap.size 0 [.int .i64 0, .int .i64 0, .int .i64 0])
  generalize setAll (w2.alloc (.cells (#[.int .i64 0, .int .i64 0, .int .i64 0]) 57)) w.heap.size 0 [.int .i64 0, .int .i64 0, .int .i64 0] = wf at *
  refine bodyPost_ret (v := .tuple #[.agg #[.int .i64 0, .int .i64 0, .int .i64 0], .int .i64 4]) ?_ rfl ⟨rfl, hW⟩
  simp [results, Tryz.results125, go_sem, hA.cell 0 _ rfl, hA.cell 1 _ rfl, hA.cell 2 _ rfl]

set_option maxRecDepth 100000 in
set_option maxHeartbeats 8000000 in
theorem readH_other (H : Nat → Int) (g1 : Nat) (a : Option Addr) (len cap : Nat) (w : World) (xs zs : List Int) (hh : Has w a len zs) (hz0 : ∀ z ∈ zs, 0 ≤ z ∧ z ≤ 255) (hx : ∀ z ∈ xs, 0 ≤ z ∧ z ≤ 255) (he : decide (xs = zs) = false) (HT : Hid (∀ u, Below w.heap.size w u → Calls Tryz.prog 126 #[.slice a len cap] u fun e w' => e = .returned (Hv H) ∧ Below u.heap.size u w')) (HW : Hid (∀ u, Below w.heap.size w u → Calls Tryz.prog 127 #[Hv H, .pointer (some ⟨g1, 0, none⟩)] u fun e w' => ∃ a' n' c', e = .returned (.tuple #[.slice a' n' c', .int .i64 0]) ∧ Hid (Has w' a' n' xs) ∧ Below u.heap.size u w')) :
    Calls Tryz.prog 125 #[.slice a len cap, .func (.func 126) #[] #[], .func (.func 127) #[] #[.pointer (some ⟨g1, 0, none⟩)]] w fun e w' => e = .returned (.tuple #[.agg #[.int .i64 0, .int .i64 0, .int .i64 0], .int .i64 4]) ∧ Below w.heap.size w w' := by
  have HH := hide hh
  clear hh
  have hb0 : Below w.heap.size w (w.alloc (.cells (#[.int .i64 0, .int .i64 0, .int .i64 0]) 57)) := (Below.refl _ w).alloc (Nat.le_refl _) _
  have HZ := hide (Bl.new w (#[.int .i64 0, .int .i64 0, .int .i64 0]) 57)
  have HB := hide hb0
  clear hb0
  go_enter Tryz.func125, Tryz.ntmps125
  go_wp2_with fail
  go_at_call 126
  refine (unhide HT _ HB.out).mono ?_
  rintro e w1 ⟨rfl, hb⟩
  replace HZ := hide ((HZ.out.call hb).alloc (.cells (Hc H) 57))
  replace HB := hide ((bchain HB.out hb (Nat.le_refl _)).alloc (bchain HB.out hb (Nat.le_refl _)).size (.cells (Hc H) 57))
  have HV := hide (Bl.new w1 (Hc H) 57)
  clear hb HT
  go_wp2_with fail
  go_at_call 127
  refine (unhide HW _ HB.out).mono ?_
  rintro e w2 ⟨a', n', c', rfl, hx', hb⟩
  replace HZ := hide (HZ.out.call hb)
  replace HB := hide (bchain HB.out hb (Nat.le_refl _))
  replace HV := hide (HV.out.call hb)
  have KE : Hid (Calls Tryz.prog 143 #[.slice a' n' c', .slice a len cap] w2 fun e w' => e = .returned (.bool false) ∧ w2 = w') := by
    have := equal_any a' a n' c' len cap xs zs w2 hx'.out ((HH.out).later HB.out) hx hz0
    rwa [he] at this
  clear hb HW hx'
  go_wp2_with fail
  go_at_call 143
  refine (unhide KE).mono ?_
  rintro e w' ⟨rfl, rfl⟩
  clear KE
  replace HZ := hide (HZ.out.alloc (.cells (#[.int .i64 0, .int .i64 0, .int .i64 0]) 57))
  replace HB := hide (HB.out.alloc HB.out.size (.cells (#[.int .i64 0, .int .i64 0, .int .i64 0]) 57))
  clear HV HH hz0 hx he
  have z0 := HZ.out.cell 0 _ rfl
  have z1 := HZ.out.cell 1 _ rfl
  have z2 := HZ.out.cell 2 _ rfl
  have hz := HZ.out.free
  go_wp2_with fail
  have hW : Below w.heap.size w (setAll (w2.alloc (.cells (#[.int .i64 0, .int .i64 0, .int .i64 0]) 57)) w.heap.size 0 [.int .i64 0, .int .i64 0, .int .i64 0]) := below_setAll (Nat.le_refl _) _ _ _ _ HB.out
  have hA : Bl (setAll (w2.alloc (.cells (#[.int .i64 0, .int .i64 0, .int .i64 0]) 57)) w.heap.size 0 [.int .i64 0, .int .i64 0, .int .i64 0]) w.heap.size (#[.int .i64 0, .int .i64 0, .int .i64 0]) 57 := setAll_whole [.int .i64 0, .int .i64 0, .int .i64 0] _ _ HZ.out rfl
  change bodyPost _ _ _ _ _ (setAll (w2.alloc (.cells (#[.int .i64 0, .int .i64 0, .int .i64 0]) 57)) w.heap.size 0 [.int .i64 0, .int .i64 0, .int .i64 0])
  generalize setAll (w2.alloc (.cells (#[.int .i64 0, .int .i64 0, .int .i64 0]) 57)) w.heap.size 0 [.int .i64 0, .int .i64 0, .int .i64 0] = wf at *
  refine bodyPost_ret (v := .tuple #[.agg #[.int .i64 0, .int .i64 0, .int .i64 0], .int .i64 4]) ?_ rfl ⟨rfl, hW⟩
  simp [results, Tryz.results125, go_sem, hA.cell 0 _ rfl, hA.cell 1 _ rfl, hA.cell 2 _ rfl]

set_option maxRecDepth 100000 in
set_option maxHeartbeats 8000000 in
theorem readH_same (H : Nat → Int) (g1 : Nat) (a : Option Addr) (len cap : Nat) (w : World) (xs zs : List Int) (hh : Has w a len zs) (hz0 : ∀ z ∈ zs, 0 ≤ z ∧ z ≤ 255) (hx : ∀ z ∈ xs, 0 ≤ z ∧ z ≤ 255) (he : decide (xs = zs) = true) (HT : Hid (∀ u, Below w.heap.size w u → Calls Tryz.prog 126 #[.slice a len cap] u fun e w' => e = .returned (Hv H) ∧ Below u.heap.size u w')) (HW : Hid (∀ u, Below w.heap.size w u → Calls Tryz.prog 127 #[Hv H, .pointer (some ⟨g1, 0, none⟩)] u fun e w' => ∃ a' n' c', e = .returned (.tuple #[.slice a' n' c', .int .i64 0]) ∧ Hid (Has w' a' n' xs) ∧ Below u.heap.size u w')) :
    Calls Tryz.prog 125 #[.slice a len cap, .func (.func 126) #[] #[], .func (.func 127) #[] #[.pointer (some ⟨g1, 0, none⟩)]] w fun e w' => e = .returned (.tuple #[Hv H, .int .i64 0]) ∧ Below w.heap.size w w' := by
  have HH := hide hh
  clear hh
  have hb0 : Below w.heap.size w (w.alloc (.cells (#[.int .i64 0, .int .i64 0, .int .i64 0]) 57)) := (Below.refl _ w).alloc (Nat.le_refl _) _
  have HZ := hide (Bl.new w (#[.int .i64 0, .int .i64 0, .int .i64 0]) 57)
  have HB := hide hb0
  clear hb0
  go_enter Tryz.func125, Tryz.ntmps125
  go_wp2_with fail
  go_at_call 126
  refine (unhide HT _ HB.out).mono ?_
  rintro e w1 ⟨rfl, hb⟩
  replace HZ := hide ((HZ.out.call hb).alloc (.cells (Hc H) 57))
  replace HB := hide ((bchain HB.out hb (Nat.le_refl _)).alloc (bchain HB.out hb (Nat.le_refl _)).size (.cells (Hc H) 57))
  have HV := hide (Bl.new w1 (Hc H) 57)
  clear hb HT
  go_wp2_with fail
  go_at_call 127
  refine (unhide HW _ HB.out).mono ?_
  rintro e w2 ⟨a', n', c', rfl, hx', hb⟩
  replace HZ := hide (HZ.out.call hb)
  replace HB := hide (bchain HB.out hb (Nat.le_refl _))
  replace HV := hide (HV.out.call hb)
  have KE : Hid (Calls Tryz.prog 143 #[.slice a' n' c', .slice a len cap] w2 fun e w' => e = .returned (.bool true) ∧ w2 = w') := by
    have := equal_any a' a n' c' len cap xs zs w2 hx'.out ((HH.out).later HB.out) hx hz0
    rwa [he] at this
  clear hb HW hx'
  go_wp2_with fail
  go_at_call 143
  refine (unhide KE).mono ?_
  rintro e w' ⟨rfl, rfl⟩
  clear KE
  clear HH hz0 hx he
  have z0 := HZ.out.cell 0 _ rfl
  have z1 := HZ.out.cell 1 _ rfl
  have z2 := HZ.out.cell 2 _ rfl
  have v0 := HV.out.cell 0 _ rfl
  have v1 := HV.out.cell 1 _ rfl
  have v2 := HV.out.cell 2 _ rfl
  have hz := HZ.out.free
  go_wp2_with fail
  have hW : Below w.heap.size w (setAll w2 w.heap.size 0 [.int .i64 (H 0), .int .i64 (H 1), .int .i64 (H 2)]) := below_setAll (Nat.le_refl _) _ _ _ _ HB.out
  have hA : Bl (setAll w2 w.heap.size 0 [.int .i64 (H 0), .int .i64 (H 1), .int .i64 (H 2)]) w.heap.size (Hc H) 57 := setAll_whole [.int .i64 (H 0), .int .i64 (H 1), .int .i64 (H 2)] _ _ HZ.out rfl
  change bodyPost _ _ _ _ _ (setAll w2 w.heap.size 0 [.int .i64 (H 0), .int .i64 (H 1), .int .i64 (H 2)])
  generalize setAll w2 w.heap.size 0 [.int .i64 (H 0), .int .i64 (H 1), .int .i64 (H 2)] = wf at *
  refine bodyPost_ret (v := .tuple #[Hv H, .int .i64 0]) ?_ rfl ⟨rfl, hW⟩
  simp [results, Tryz.results125, go_sem, hA.cell 0 _ rfl, hA.cell 1 _ rfl, hA.cell 2 _ rfl]

end Go.Proofs.YtadnlljknocbbaaGreatDoor

/- Contracts of codec.Super and skerryref06.Super. -/
namespace Go.Proofs.YtadnlljknocbbaaGreatDoor
open Go.RowKit Go.Shelf
set_option linter.unusedVariables false
set_option maxRecDepth 100000

/-- S K R Y. -/
def skry : List Int := [83, 75, 82, 89]

/-- The twelve bytes ahead of a superblock's sum. -/
def supH (P : Nat → Int) : List Int := skry ++ numsB 2 [P 0, P 1, P 2, P 3]

theorem supH_length (P : Nat → Int) : (supH P).length = 12 := by simp [supH, skry, length_numsB]

theorem skry_byts : Byts skry := by intro z hz; simp [skry] at hz; omega

theorem supH_byts (P : Nat → Int) : Byts (supH P) := by
  intro z hz
  simp only [supH, List.mem_append] at hz
  rcases hz with hz | hz
  · exact skry_byts z hz
  · exact numsB_byte _ _ z hz

/-- What a sound plan's first numbers are. -/
theorem check_bounds {P : Nat → Int} (h : checkE P = 0) : isSize (P 0) ∧ 1 ≤ P 1 ∧ P 1 ≤ 4096 ∧ 2 ≤ P 2 ∧ P 2 ≤ 1024 ∧ 4 ≤ P 3 ∧ P 3 ≤ 512 := by
  have he : makeE (P 0) (P 1) (P 2) (P 3) = 0 := by
    by_cases h0 : makeE (P 0) (P 1) (P 2) (P 3) = 0
    · exact h0
    · rw [checkE_bad h0] at h; omega
  by_cases hb : badArg (P 0) (P 1) (P 2) (P 3)
  · rw [makeE_bad hb] at he; omega
  · obtain ⟨h1, h2, h3, h4⟩ := good_arg hb
    exact ⟨h1, by omega, by omega, by omega, by omega, by omega, by omega⟩

theorem check_fit {P : Nat → Int} (h : checkE P = 0) : fitB 2 [P 0, P 1, P 2, P 3] = true := by
  obtain ⟨h0, h1⟩ := check_bounds h
  have := size_bd h0
  rw [fitB_iff]
  intro v hv
  simp only [List.mem_cons, List.not_mem_nil, or_false] at hv
  rcases hv with rfl | rfl | rfl | rfl <;> omega

/-- []byte("SKRY"): the row and its mark. -/
theorem conv_skry (u : World) : (convert 50 50 (.slice (some ⟨u.heap.size, 0, none⟩) 4 4)).run Tryz.prog (u.alloc (.cells #[.int .u8 83, .int .u8 75, .int .u8 82, .int .u8 89] 5)) = .ok (.slice (some ⟨u.heap.size, 0, none⟩) 4 4) (u.alloc (.cells #[.int .u8 83, .int .u8 75, .int .u8 82, .int .u8 89] 5 (4, 5))) :=
  Lib.run_convert_bytes_const (P := Tryz.prog) u 50 5 #[.int .u8 83, .int .u8 75, .int .u8 82, .int .u8 89] 4 4 Tryz.underlying50 Tryz.underlying5

end Go.Proofs.YtadnlljknocbbaaGreatDoor

/- Contracts of skerryref06.Super and skerryref06.Header: the blocks. -/
namespace Go.Proofs.YtadnlljknocbbaaGreatDoor
open Go.RowKit Go.Shelf
set_option linter.unusedVariables false
set_option maxRecDepth 100000

theorem refput_n (B : Nat) (a : Option Addr) (n c : Nat) (xs : List Int) (wd : Nat) (v : Int) (w : World) (m : Nat) (hm : m = n + wd) (h : Src B w a n c xs) (hB : B ≤ w.heap.size) (hw : 1 ≤ wd ∧ wd ≤ 4) (h0 : 0 ≤ v) (h1 : v ≤ 4294967296) (hn : n ≤ 140737488351232) :
    Calls Tryz.prog 90 #[.slice a n c, .int .i64 (wd : Int), .int .i64 v] w fun e w' => ∃ a' c', e = .returned (.slice a' m c') ∧ Hid (Own B w' a' m c' (xs ++ digits wd v)) ∧ Below B w w' := by
  subst hm
  exact refput_any B a n c xs wd v w h hB hw h0 h1 hn

theorem fit1 {wd : Nat} {v : Int} (h : fitB wd [v] = true) : 0 ≤ v ∧ v < 256 ^ wd := fitB_iff.1 h v (by simp)

theorem src_lit (u : World) (xs : List Int) (fr : Nat × Nat) (B : Nat) (n : Nat) (hn : xs.length = n) (hp : 0 < n) : Src B (u.alloc (.cells (xs.map (Value.int .u8)).toArray 5 fr)) (some ⟨u.heap.size, 0, none⟩) n n xs := by
  subst hn
  exact .inr ⟨has_list u xs fr, rfl, hp⟩

theorem conv_slog (u : World) : (convert 50 50 (.slice (some ⟨u.heap.size, 0, none⟩) 4 4)).run Tryz.prog (u.alloc (.cells #[.int .u8 83, .int .u8 76, .int .u8 79, .int .u8 71] 5)) = .ok (.slice (some ⟨u.heap.size, 0, none⟩) 4 4) (u.alloc (.cells #[.int .u8 83, .int .u8 76, .int .u8 79, .int .u8 71] 5 (4, 5))) :=
  Lib.run_convert_bytes_const (P := Tryz.prog) u 50 5 #[.int .u8 83, .int .u8 76, .int .u8 79, .int .u8 71] 4 4 Tryz.underlying50 Tryz.underlying5

theorem conv_skry' (u : World) : (convert 50 50 (.slice (some ⟨u.heap.size, 0, none⟩) 4 4)).run Tryz.prog (u.alloc (.cells #[.int .u8 83, .int .u8 75, .int .u8 82, .int .u8 89] 5)) = .ok (.slice (some ⟨u.heap.size, 0, none⟩) 4 4) (u.alloc (.cells #[.int .u8 83, .int .u8 75, .int .u8 82, .int .u8 89] 5 (4, 5))) :=
  Lib.run_convert_bytes_const (P := Tryz.prog) u 50 5 #[.int .u8 83, .int .u8 75, .int .u8 82, .int .u8 89] 4 4 Tryz.underlying50 Tryz.underlying5

end Go.Proofs.YtadnlljknocbbaaGreatDoor


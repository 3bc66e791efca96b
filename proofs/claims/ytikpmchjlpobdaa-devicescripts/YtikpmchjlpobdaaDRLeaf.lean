/- The contracts of the document's device: the small ones. -/
import Derived.Test.YtikpmchjlpobdaaDRBase
namespace Go.Proofs.Ytikpmchjlpobdaa
open Go.RowKit Go.Shelf
set_option linter.unusedVariables false

theorem rblock (g : Nat) (w : World) (x : Int) (c0 : w.cell? ⟨g, 0, none⟩ = some (.int .i64 x)) :
    Calls Try.prog 26 #[.pointer (some ⟨g, 0, none⟩)] w fun e w' => e = .returned (.int .i64 x) ∧ w = w' := by
  go_enter Try.func26, Try.ntmps26
  go_wp2
  go_ret
  exact ⟨rfl, rfl⟩

theorem rblocks (g h n c : Nat) (w : World) (c1 : w.cell? ⟨g, 1, none⟩ = some (.slice (some ⟨h, 0, none⟩) n c)) :
    Calls Try.prog 28 #[.pointer (some ⟨g, 0, none⟩)] w fun e w' => e = .returned (.int .i64 n) ∧ w = w' := by
  go_enter Try.func28, Try.ntmps28
  go_wp2
  go_ret
  exact ⟨rfl, rfl⟩

theorem rdead (g : Nat) (w : World) (x : Bool) (c3 : w.cell? ⟨g, 3, none⟩ = some (.bool x)) :
    Calls Try.prog 30 #[.pointer (some ⟨g, 0, none⟩)] w fun e w' => e = .returned (.bool x) ∧ w = w' := by
  go_enter Try.func30, Try.ntmps30
  go_wp2
  go_ret
  exact ⟨rfl, rfl⟩

theorem rwrites (g : Nat) (w : World) (x : Int) (c4 : w.cell? ⟨g, 4, none⟩ = some (.int .i64 x)) :
    Calls Try.prog 32 #[.pointer (some ⟨g, 0, none⟩)] w fun e w' => e = .returned (.int .i64 x) ∧ w = w' := by
  go_enter Try.func32, Try.ntmps32
  go_wp2
  go_ret
  exact ⟨rfl, rfl⟩

theorem rburn_dies (g : Nat) (S : Nat → Prop) (D : Dev) (w : World) (hD : Rv w S g D) (hb : D.burnt) :
    Calls Try.prog 49 #[.pointer (some ⟨g, 0, none⟩)] w fun e w' => e = .returned (.bool false) ∧ Rv w' S g D.die ∧ Nx S w S w' := by
  obtain ⟨m, hD⟩ := hD
  obtain ⟨c0, c1, c2, c3, c4⟩ := hD.cells
  have f3 := hD.free 3
  by_cases h0 : D.f = 0
  · rw [h0] at c2
    have fin : RvM (w.setCell ⟨g, 3, none⟩ (.bool true)) S g D.die m := hD.setG 3 (.bool true) ⟨rfl, rfl, rfl, rfl⟩ (fun j hj => by
      rcases five j hj with rfl | rfl | rfl | rfl | rfl <;> simp [rcell, Dev.die]) hD.ok.die
    have F := hide fin
    have Nn := hide (Nx.set (w := w) (p := ⟨g, 3, none⟩) hD.sg (.bool true))
    generalize D.dead = dd at *
    generalize D.blk = bb at *
    generalize D.n = nn at *
    generalize m.h = hh at *
    generalize m.hc = hc at *
    clear h0 fin hD hb
    go_enter Try.func49, Try.ntmps49
    go_wp2
    go_ret
    exact ⟨rfl, ⟨m, unhide F⟩, unhide Nn⟩
  · have hd : D.dead = true := by rcases hb with hb | hb; · omega
                                  · exact hb
    rw [hd] at c3
    have F := hide (show Rv w S g D.die by rw [Dev.die_dead hd]; exact ⟨m, hD⟩)
    generalize D.f = ff at *
    clear hD hd
    go_enter Try.func49, Try.ntmps49
    go_wp2
    go_ret
    exact ⟨rfl, unhide F, Nx.refl _ _⟩

theorem rburn_burns (g : Nat) (S : Nat → Prop) (D : Dev) (w : World) (hD : Rv w S g D) (hb : ¬ D.burnt) :
    Calls Try.prog 49 #[.pointer (some ⟨g, 0, none⟩)] w fun e w' => e = .returned (.bool true) ∧ Rv w' S g D.burn ∧ Nx S w S w' := by
  obtain ⟨m, hD⟩ := hD
  obtain ⟨c0, c1, c2, c3, c4⟩ := hD.cells
  have f2 := hD.free 2
  have f4 := hD.free 4
  have hd : D.dead = false := by cases h : D.dead with
    | false => rfl
    | true => exact absurd (.inr h) hb
  have hf : ¬ D.f = 0 := fun h => hb (.inl h)
  rw [hd] at c3
  by_cases hp : 0 < D.f
  · have ho1 : Dev.Ok { D with f := D.f - 1 } := ⟨hD.ok.n1, hD.ok.n2, hD.ok.b1, hD.ok.b2, hD.ok.y, by simp only; omega, by have := hD.ok.f2; simp only; omega⟩
    have s1 : RvM (w.setCell ⟨g, 2, none⟩ (.int .i64 (D.f - 1))) S g { D with f := D.f - 1 } m := hD.setG 2 _ ⟨rfl, rfl, rfl, rfl⟩ (fun j hj => by
      rcases five j hj with rfl | rfl | rfl | rfl | rfl <;> simp [rcell]) ho1
    have s2 : RvM ((w.setCell ⟨g, 2, none⟩ (.int .i64 (D.f - 1))).setCell ⟨g, 4, none⟩ (.int .i64 (wrap64 (D.wr + 1)))) S g D.burn m := s1.setG 4 _ ⟨rfl, rfl, rfl, rfl⟩ (fun j hj => by
      rcases five j hj with rfl | rfl | rfl | rfl | rfl <;> simp [rcell, Dev.burn, hp]) hD.ok.burn
    have F := hide s2
    have Nn := hide ((Nx.set (w := w) (p := ⟨g, 2, none⟩) hD.sg (.int .i64 (D.f - 1))).trans (Nx.set (p := ⟨g, 4, none⟩) hD.sg (.int .i64 (wrap64 (D.wr + 1)))))
    have hv1 : wrap64 (D.f - 1) = D.f - 1 := wrap_pred _ hp hD.ok.f2
    generalize D.f = ff at *
    generalize D.wr = wr at *
    generalize D.blk = bb at *
    generalize D.n = nn at *
    generalize m.h = hh at *
    generalize m.hc = hc at *
    clear s1 s2 hD hb ho1
    go_enter Try.func49, Try.ntmps49
    go_wp2
    go_ret
    exact ⟨rfl, ⟨_, unhide F⟩, unhide Nn⟩
  · have s2 : RvM (w.setCell ⟨g, 4, none⟩ (.int .i64 (wrap64 (D.wr + 1)))) S g D.burn m := hD.setG 4 _ ⟨rfl, rfl, rfl, rfl⟩ (fun j hj => by
      rcases five j hj with rfl | rfl | rfl | rfl | rfl <;> simp [rcell, Dev.burn, hp]) hD.ok.burn
    have F := hide s2
    have Nn := hide (Nx.set (w := w) (p := ⟨g, 4, none⟩) hD.sg (.int .i64 (wrap64 (D.wr + 1))))
    generalize D.f = ff at *
    generalize D.wr = wr at *
    generalize D.blk = bb at *
    generalize D.n = nn at *
    generalize m.h = hh at *
    generalize m.hc = hc at *
    clear s2 hD hb
    go_enter Try.func49, Try.ntmps49
    go_wp2
    go_ret
    exact ⟨rfl, ⟨_, unhide F⟩, unhide Nn⟩

theorem rfuse (g : Nat) (n : Int) (S : Nat → Prop) (D : Dev) (w : World) (hD : Rv w S g D) (hn : n ≤ 9223372036854775807) :
    Calls Try.prog 20 #[.pointer (some ⟨g, 0, none⟩), .int .i64 n] w fun e w' => e = .returned (.int .i64 (D.fuseE n)) ∧ Rv w' S g (D.fuseD n) ∧ Nx S w S w' := by
  by_cases h0 : n < 0
  · rw [Dev.fuseE, Dev.fuseD, if_pos h0, if_pos h0]
    have F := hide hD
    clear hD
    go_enter Try.func20, Try.ntmps20
    go_wp2
    go_ret
    exact ⟨rfl, unhide F, Nx.refl _ _⟩
  · rw [Dev.fuseE, Dev.fuseD, if_neg h0, if_neg h0]
    obtain ⟨m, hD⟩ := hD
    obtain ⟨c0, c1, c2, c3, c4⟩ := hD.cells
    have f2 := hD.free 2
    by_cases hd : D.dead = true
    · rw [if_pos hd, if_pos hd]
      have F := hide (show Rv w S g D from ⟨m, hD⟩)
      rw [hd] at c3
      clear hD hd
      go_enter Try.func20, Try.ntmps20
      go_wp2
      go_ret
      exact ⟨rfl, unhide F, Nx.refl _ _⟩
    · rw [if_neg hd, if_neg hd]
      have hd' : D.dead = false := by simpa using hd
      rw [hd'] at c3
      have s1 : RvM (w.setCell ⟨g, 2, none⟩ (.int .i64 n)) S g { D with f := n } m := hD.setG 2 _ ⟨rfl, rfl, rfl, rfl⟩ (fun j hj => by
        rcases five j hj with rfl | rfl | rfl | rfl | rfl <;> simp [rcell]) ⟨hD.ok.n1, hD.ok.n2, hD.ok.b1, hD.ok.b2, hD.ok.y, by simp only; omega, hn⟩
      have F := hide s1
      have Nn := hide (Nx.set (w := w) (p := ⟨g, 2, none⟩) hD.sg (.int .i64 n))
      clear hD hd hd' hn s1
      go_enter Try.func20, Try.ntmps20
      go_wp2
      go_ret
      exact ⟨rfl, ⟨m, unhide F⟩, unhide Nn⟩

theorem rread_dead (g : Nat) (b : Int) (S : Nat → Prop) (D : Dev) (w : World) (hD : Rv w S g D) (hd : D.dead = true) :
    Calls Try.prog 13 #[.pointer (some ⟨g, 0, none⟩), .int .i64 b] w fun e w' => e = .returned (.tuple #[.slice none 0 0, .int .i64 7]) ∧ w = w' := by
  obtain ⟨m, hD⟩ := hD
  obtain ⟨c0, c1, c2, c3, c4⟩ := hD.cells
  rw [hd] at c3
  clear hD hd
  go_enter Try.func13, Try.ntmps13
  go_wp2
  go_ret2
  exact ⟨rfl, rfl⟩

theorem rread_range (g : Nat) (b : Int) (S : Nat → Prop) (D : Dev) (w : World) (hD : Rv w S g D) (hd : D.dead = false) (hb : ¬ (0 ≤ b ∧ b < D.n)) :
    Calls Try.prog 13 #[.pointer (some ⟨g, 0, none⟩), .int .i64 b] w fun e w' => e = .returned (.tuple #[.slice none 0 0, .int .i64 2]) ∧ w = w' := by
  obtain ⟨m, hD⟩ := hD
  obtain ⟨c0, c1, c2, c3, c4⟩ := hD.cells
  rw [hd] at c3
  clear hD hd
  generalize D.n = nn at *
  by_cases h0 : b < 0
  · clear hb
    go_enter Try.func13, Try.ntmps13
    go_wp2
    go_ret2
    exact ⟨rfl, rfl⟩
  · have h1 : (nn : Int) ≤ b := by omega
    clear hb
    go_enter Try.func13, Try.ntmps13
    go_wp2
    go_ret2
    exact ⟨rfl, rfl⟩

end Go.Proofs.Ytikpmchjlpobdaa

/- The contracts of the document's device: Waiting, Crash. -/
import Derived.Test.YtikpmchjlpobdaaDRFlush
namespace Go.Proofs.Ytikpmchjlpobdaa
open Go.RowKit Go.Shelf
set_option linter.unusedVariables false

set_option maxHeartbeats 2000000 in
theorem rwaiting (g : Nat) (S : Nat → Prop) (D : Dev) (w : World) (hD : Rv w S g D) :
    Calls Try.prog 35 #[.pointer (some ⟨g, 0, none⟩)] w fun e w' => ∃ a c, e = .returned (.slice a D.waitL.length c) ∧ IOwn w.heap.size w' a D.waitL.length c D.waitL ∧ Below w.heap.size w w' := by
  obtain ⟨m, hD⟩ := hD
  have hn := hD.ok.n2
  have KP : Hid (∀ wr, Below w.heap.size w wr → wr.cell? ⟨g, 1, none⟩ = some (.slice (some ⟨m.h, 0, none⟩) D.n m.hc) ∧ ∀ k, k < D.n → ∃ kk c, wr.cell? ⟨m.h, k, none⟩ = some (.slice (some ⟨kk, 0, none⟩) ((D.Y k).length + 1) c) ∧ (D.Y k).length ≤ 400) := by
    intro wr hb
    have h1 := hD.grow hb
    refine ⟨h1.cells.2.1, fun k hk => ?_⟩
    obtain ⟨kk, c, _, _, _, _, l1, _⟩ := h1.list hk
    exact ⟨kk, c, l1, hD.ok.y k hk⟩
  have G0 : Hid (Gr w.heap.size w (.slice none 0 0) (D.waitTo 0)) := World.ownsRow_nil _ _ _ _
  have B0 : Hid (Below w.heap.size w w) := Below.refl _ _
  have hE : Hid (D.waitL = D.waitTo D.n) := rfl
  generalize m.h = hh at *
  generalize m.hc = hc at *
  generalize hN : D.n = nn at *
  generalize D.waitL = WL at *
  clear hD hN
  generalize hB0 : w.heap.size = B at *
  have hB := hide hB0.symm
  clear hB0
  go_enter Try.func35, Try.ntmps35
  go_upto_region 3 with fail
  go_loopw [4, 3] (fun i v wr => ∃ (k : Nat) (a' : Option Addr) (c' : Nat), k ≤ nn ∧ i = .int .i64 (k : Int) ∧ v = .slice a' (D.waitTo k).length c' ∧ Hid (Gr B wr v (D.waitTo k)) ∧ Hid (Below B w wr)) (fun i _ _ => nn - (intOf i).toNat)
  case atStart => exact ⟨0, none, 0, Nat.zero_le _, rfl, rfl, G0, B0⟩
  case round =>
    obtain ⟨k, a', c', hk, rfl, rfl, hG, hX⟩ := hrel
    clear G0 B0
    obtain ⟨x1, KQ⟩ := unhide KP wr (unhide hX)
    by_cases hlt : k < nn
    · obtain ⟨kk, c, x2, hly⟩ := KQ k hlt
      clear KP KQ
      have hin : (k : Int) < (nn : Int) := by omega
      have hl := hide (waitTo_len D k)
      by_cases hY : D.Y k = []
      · have G2 := hide (show D.waitTo (k + 1) = D.waitTo k by simp [Dev.waitTo, hY])
        rw [hY] at x2
        simp only [List.length_nil, Nat.zero_add] at x2
        clear hY hly
        generalize hlw : (D.waitTo k).length = lw at *
        have HL := hide hlw
        clear hlw
        go_wp2_with fail
        refine ⟨⟨k + 1, a', c', by omega, by go_num, ?_, ?_, hX⟩, by simp [intOf]; omega⟩
        · rw [unhide G2, unhide HL]
        · rw [unhide G2]; exact hG
      · have hp : 0 < (D.Y k).length := List.length_pos_iff.2 hY
        have G2 := hide (show D.waitTo (k + 1) = D.waitTo k ++ [(k : Int), ((D.Y k).length : Int)] by simp [Dev.waitTo, hY])
        clear hY
        generalize hly2 : (D.Y k).length = ly at *
        clear hly2
        have hs : B ≤ wr.heap.size := by
          have := (unhide hX).size
          rw [unhide hB]; exact this
        obtain ⟨v', w2, R', G4, X4⟩ := (unhide hG).two hs (by have := unhide hl; omega) (k : Int) (ly : Int)
        obtain ⟨a2, c2, rfl⟩ := G4.shape
        have R := hide R'
        have G5 := hide G4
        have X5 := hide ((unhide hX).trans X4)
        generalize hlw : (D.waitTo k).length = lw at *
        have HL := hide hlw
        have m2 : wrap64 (((ly + 1 : Nat) : Int) - 1) = (ly : Int) := by unfold wrap64; omega
        have m3 : ((ly + 1 : Nat) : Int) - 1 = (ly : Int) := by omega
        have m4 : (1 : Int) < ((ly + 1 : Nat) : Int) := by omega
        clear R' G4 X4 hlw hG hX hs hp
        go_wp2_with (at_builtin; refine wpList_append_run 32 rfl _ _ rfl _ _ _ rfl rfl (unhide R) ?_; clear R)
        refine ⟨⟨k + 1, a2, c2, by omega, by go_num, ?_, ?_, X5⟩, by simp [intOf]; omega⟩
        · rw [unhide G2, List.length_append]; rfl
        · rw [unhide G2]
          have := unhide G5
          rw [List.length_append] at this
          exact this
    · have hkn : k = nn := by omega
      have nk : ¬ (k : Int) < (nn : Int) := by omega
      have HG := unhide hG
      rw [hkn, ← unhide hE] at HG
      obtain ⟨a2, c2, e, ho⟩ := HG.own
      have e2 : (D.waitTo k).length = WL.length := by rw [hkn, unhide hE]
      rw [e2]
      cases e
      have HO := hide ho
      clear KP KQ hG HG ho hkn e2
      go_wp2_with fail
      go_ret
      exact ⟨_, _, rfl, unhide HO, unhide hX⟩

theorem cnt_leR (D : Dev) : ∀ b, D.cnt b ≤ b
  | 0 => Nat.le_refl _
  | b + 1 => by
    have := cnt_leR D b
    simp only [Dev.cnt]
    split <;> omega

theorem waitTo_cnt (D : Dev) : ∀ k, (D.waitTo k).length = 2 * D.cnt k
  | 0 => rfl
  | k + 1 => by
    have := waitTo_cnt D k
    simp only [Dev.waitTo, Dev.cnt, List.length_append]
    by_cases h : D.Y k = []
    · simp [h, this]
    · simp [h, this]; omega

theorem waitTo_prefix (D : Dev) {a b : Nat} (h : a ≤ b) : ∃ r, D.waitTo b = D.waitTo a ++ r := by
  induction b with
  | zero => obtain rfl : a = 0 := by omega
            exact ⟨[], by simp⟩
  | succ b ih =>
    by_cases e : a = b + 1
    · subst e; exact ⟨[], by simp⟩
    · obtain ⟨r, hr⟩ := ih (by omega)
      exact ⟨r ++ _, by simp only [Dev.waitTo]; rw [hr, List.append_assoc]⟩

/-- The pair of block b in the list of what waits. -/
theorem waitTo_pair (D : Dev) {b n : Nat} (hb : b < n) (hY : D.Y b ≠ []) : (D.waitTo n)[2 * D.cnt b]? = some (b : Int) ∧ (D.waitTo n)[2 * D.cnt b + 1]? = some ((D.Y b).length : Int) := by
  obtain ⟨r, hr⟩ := waitTo_prefix D (show b + 1 ≤ n by omega)
  have hl := waitTo_cnt D b
  have e : D.waitTo (b + 1) = D.waitTo b ++ [(b : Int), ((D.Y b).length : Int)] := by simp [Dev.waitTo, hY]
  rw [hr, e, List.append_assoc]
  constructor
  · rw [List.getElem?_append_right (by omega), hl, Nat.sub_self]; rfl
  · rw [List.getElem?_append_right (by omega), hl, show 2 * D.cnt b + 1 - 2 * D.cnt b = 1 by omega]; rfl

/-- The next block of which writes wait. -/
theorem next_block (D : Dev) (ps : List Int) {n : Nat} : ∀ (d b : Nat), n - b = d → b ≤ n → D.cnt b < D.cnt n → ∃ b', b ≤ b' ∧ b' < n ∧ D.Y b' ≠ [] ∧ D.cnt b' = D.cnt b ∧ D.crashTo ps b = D.crashTo ps b'
  | 0, b, hd, hb, hc => by
    obtain rfl : b = n := by omega
    omega
  | d + 1, b, hd, hb, hc => by
    by_cases h : D.Y b = []
    · have e : D.cnt (b + 1) = D.cnt b := by simp [Dev.cnt, h]
      have hbn : b + 1 ≤ n := by omega
      have hd2 : n - (b + 1) = d := by omega
      obtain ⟨b', x1, x2, x3, x4, x5⟩ := next_block D ps d (b + 1) hd2 hbn (by rw [e]; exact hc)
      exact ⟨b', by omega, x2, x3, x4.trans e, (crash_skip D ps b h).trans x5⟩
    · exact ⟨b, Nat.le_refl _, by omega, h, rfl, rfl⟩

theorem cnt_mono (D : Dev) {a b : Nat} (h : a ≤ b) : D.cnt a ≤ D.cnt b := by
  induction b with
  | zero => obtain rfl : a = 0 := by omega
            exact Nat.le_refl _
  | succ b ih =>
    by_cases e : a = b + 1
    · rw [e]; exact Nat.le_refl _
    · have := ih (by omega)
      simp only [Dev.cnt]
      omega

/-- No more block of which writes wait. -/
theorem last_block (D : Dev) (ps : List Int) {n : Nat} : ∀ (d b : Nat), n - b = d → b ≤ n → D.cnt b = D.cnt n → D.crashTo ps b = D.crashTo ps n
  | 0, b, hd, hb, hc => by
    obtain rfl : b = n := by omega
    rfl
  | d + 1, b, hd, hb, hc => by
    have hm := cnt_mono D (show b + 1 ≤ n by omega)
    have h : D.Y b = [] := by
      by_cases h : D.Y b = []
      · exact h
      · have e : D.cnt (b + 1) = D.cnt b + 1 := by simp [Dev.cnt, h]
        omega
    have e : D.cnt (b + 1) = D.cnt b := by simp [Dev.cnt, h]
    exact (crash_skip D ps b h).trans (last_block D ps d (b + 1) (by omega) (by omega) (by omega))

/-- The row that a pick names. -/
theorem pick_row (D : Dev) (b : Nat) (q : Int) : (D.X b :: D.Y b)[min q.toNat (D.Y b).length]?.getD [] = D.pick b q := by
  unfold Dev.pick
  by_cases h : q ≤ 0
  · rw [if_pos h, show q.toNat = 0 by omega, Nat.zero_min]; rfl
  · rw [if_neg h]
    by_cases hY : (D.Y b).length = 0
    · rw [hY, Nat.min_zero]
      have : D.Y b = [] := List.eq_nil_of_length_eq_zero hY
      rw [this]; rfl
    · obtain ⟨l, hl⟩ : ∃ l, min q.toNat (D.Y b).length = l + 1 := ⟨min q.toNat (D.Y b).length - 1, by omega⟩
      rw [hl, List.getElem?_cons_succ, Nat.add_sub_cancel, List.getElem?_eq_getElem (by omega)]
      rfl

theorem RvM.setL2 {w : World} {S : Nat → Prop} {g : Nat} {D : Dev} {m : RMem} (h : RvM w S g D m) :
    Rv ((w.setCell ⟨g, 3, none⟩ (.bool false)).setCell ⟨g, 2, none⟩ (.int .i64 (-1))) S g D.live ∧ Nx S w S ((w.setCell ⟨g, 3, none⟩ (.bool false)).setCell ⟨g, 2, none⟩ (.int .i64 (-1))) := by
  have s0 : RvM (w.setCell ⟨g, 3, none⟩ (.bool false)) S g { D with dead := false } m := h.setG 3 _ ⟨rfl, rfl, rfl, rfl⟩ (fun j hj => by
    rcases five j hj with rfl | rfl | rfl | rfl | rfl <;> simp [rcell]) ⟨h.ok.n1, h.ok.n2, h.ok.b1, h.ok.b2, h.ok.y, h.ok.f1, h.ok.f2⟩
  have s1 : RvM ((w.setCell ⟨g, 3, none⟩ (.bool false)).setCell ⟨g, 2, none⟩ (.int .i64 (-1))) S g D.live m := s0.setG 2 _ ⟨rfl, rfl, rfl, rfl⟩ (fun j hj => by
    rcases five j hj with rfl | rfl | rfl | rfl | rfl <;> simp [rcell, Dev.live]) ⟨h.ok.n1, h.ok.n2, h.ok.b1, h.ok.b2, h.ok.y, by simp [Dev.live], by simp [Dev.live]⟩
  exact ⟨⟨_, s1⟩, (Nx.set (p := ⟨g, 3, none⟩) h.sg _).trans (Nx.set (p := ⟨g, 2, none⟩) h.sg _)⟩

end Go.Proofs.Ytikpmchjlpobdaa

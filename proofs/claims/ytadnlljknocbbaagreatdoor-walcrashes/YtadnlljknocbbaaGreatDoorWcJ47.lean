/- Joined: WOpen, WImage, WLaw. -/
import Derived.Test.YtadnlljknocbbaaGreatDoorWcJ46
import Derived.Test.YtadnlljknocbbaaGreatDoorWcJ45
import Derived.Test.YtadnlljknocbbaaGreatDoorWcJ33
import Derived.Test.YtadnlljknocbbaaGreatDoorWcDNew
import Derived.Test.YtadnlljknocbbaaGreatDoorWcJ5
import Derived.Test.YtadnlljknocbbaaGreatDoorWcJ16
/- The contract of Open. -/
namespace Go.Proofs.YtadnlljknocbbaaGreatDoor
open Go.RowKit Go.Shelf Go.Maps
set_option linter.unusedVariables false
set_option maxRecDepth 100000

/-- A log of which nothing has been read. -/
def Lg.new : Lg := ⟨⟨0, 0, 0⟩, fun _ => none, false⟩

/-- The struct is laid. -/
theorem open_laid {w w1 : World} {Sd : Nat → Prop} {dg : Nat} {D : Dev} {P : Nat → Int} {G : Geo} (hP : PG P G) (hD : Dv w Sd dg D) (bd : D.blk = G.blk) (nd : D.n = G.n) (hT : Tab w) (h0 : ¬ Sd 0) (hb : Below w.heap.size w w1) :
    ∃ S, Lv ((w1.alloc (.map #[] 0)).alloc (.cells #[.pointer (some ⟨dg, 0, none⟩), .int .i64 (P 0), .int .i64 (P 1), .int .i64 (P 2), .int .i64 (P 3), .int .i64 (P 4), .int .i64 (P 5), .int .i64 (P 6), .int .i64 (P 7), .int .i64 (P 8), .int .i64 (P 9), .int .i64 (P 10), .int .i64 (P 11), .int .i64 0, .int .i64 0, .int .i64 0, .map (some w1.heap.size), .bool false] 97)) S (w1.heap.size + 1) dg P G Lg.new D ∧ Nx Sd w S ((w1.alloc (.map #[] 0)).alloc (.cells #[.pointer (some ⟨dg, 0, none⟩), .int .i64 (P 0), .int .i64 (P 1), .int .i64 (P 2), .int .i64 (P 3), .int .i64 (P 4), .int .i64 (P 5), .int .i64 (P 6), .int .i64 (P 7), .int .i64 (P 8), .int .i64 (P 9), .int .i64 (P 10), .int .i64 (P 11), .int .i64 0, .int .i64 0, .int .i64 0, .map (some w1.heap.size), .bool false] 97)) := by
  have hs := hb.size
  have h0w := hT.lt
  have b1 : Below w1.heap.size w1 (w1.alloc (.map #[] 0)) := (Below.refl _ _).alloc (Nat.le_refl _) _
  have z1 : (w1.alloc (.map #[] 0)).heap.size = w1.heap.size + 1 := by simp
  have b2 : Below (w1.alloc (.map #[] 0)).heap.size (w1.alloc (.map #[] 0)) ((w1.alloc (.map #[] 0)).alloc (.cells #[.pointer (some ⟨dg, 0, none⟩), .int .i64 (P 0), .int .i64 (P 1), .int .i64 (P 2), .int .i64 (P 3), .int .i64 (P 4), .int .i64 (P 5), .int .i64 (P 6), .int .i64 (P 7), .int .i64 (P 8), .int .i64 (P 9), .int .i64 (P 10), .int .i64 (P 11), .int .i64 0, .int .i64 0, .int .i64 0, .map (some w1.heap.size), .bool false] 97)) := (Below.refl _ _).alloc (Nat.le_refl _) _
  have z2 : ((w1.alloc (.map #[] 0)).alloc (.cells #[.pointer (some ⟨dg, 0, none⟩), .int .i64 (P 0), .int .i64 (P 1), .int .i64 (P 2), .int .i64 (P 3), .int .i64 (P 4), .int .i64 (P 5), .int .i64 (P 6), .int .i64 (P 7), .int .i64 (P 8), .int .i64 (P 9), .int .i64 (P 10), .int .i64 (P 11), .int .i64 0, .int .i64 0, .int .i64 0, .map (some w1.heap.size), .bool false] 97)).heap.size = w1.heap.size + 2 := by simp
  have b3 : Below w.heap.size w ((w1.alloc (.map #[] 0)).alloc (.cells #[.pointer (some ⟨dg, 0, none⟩), .int .i64 (P 0), .int .i64 (P 1), .int .i64 (P 2), .int .i64 (P 3), .int .i64 (P 4), .int .i64 (P 5), .int .i64 (P 6), .int .i64 (P 7), .int .i64 (P 8), .int .i64 (P 9), .int .i64 (P 10), .int .i64 (P 11), .int .i64 0, .int .i64 0, .int .i64 0, .map (some w1.heap.size), .bool false] 97)) := (hb.trans (b1.mono hs)).trans (b2.mono (by omega))
  have str := World.rowIs_alloc (w1.alloc (.map #[] 0)) #[.pointer (some ⟨dg, 0, none⟩), .int .i64 (P 0), .int .i64 (P 1), .int .i64 (P 2), .int .i64 (P 3), .int .i64 (P 4), .int .i64 (P 5), .int .i64 (P 6), .int .i64 (P 7), .int .i64 (P 8), .int .i64 (P 9), .int .i64 (P 10), .int .i64 (P 11), .int .i64 0, .int .i64 0, .int .i64 0, .map (some w1.heap.size), .bool false] 97 (gcell dg P Lg.new ⟨w1.heap.size, fun _ => (0, 0)⟩) (fun i hi => by
    have h18 : i < 18 := by simpa using hi
    have : i = 0 ∨ i = 1 ∨ i = 2 ∨ i = 3 ∨ i = 4 ∨ i = 5 ∨ i = 6 ∨ i = 7 ∨ i = 8 ∨ i = 9 ∨ i = 10 ∨ i = 11 ∨ i = 12 ∨ i = 13 ∨ i = 14 ∨ i = 15 ∨ i = 16 ∨ i = 17 := by omega
    rcases this with rfl | rfl | rfl | rfl | rfl | rfl | rfl | rfl | rfl | rfl | rfl | rfl | rfl | rfl | rfl | rfl | rfl | rfl <;> rfl)
  rw [z1] at str
  have mp : MapB ((w1.alloc (.map #[] 0)).alloc (.cells #[.pointer (some ⟨dg, 0, none⟩), .int .i64 (P 0), .int .i64 (P 1), .int .i64 (P 2), .int .i64 (P 3), .int .i64 (P 4), .int .i64 (P 5), .int .i64 (P 6), .int .i64 (P 7), .int .i64 (P 8), .int .i64 (P 9), .int .i64 (P 10), .int .i64 (P 11), .int .i64 0, .int .i64 0, .int .i64 0, .map (some w1.heap.size), .bool false] 97)) G.blk w1.heap.size G.n (fun _ => none) := (MapB.made w1 G.blk G.n).kept (b2.block _ (by omega))
  have hd := hD.below b3
  have hTb := hT.kept (b3.block 0 h0w)
  generalize ((w1.alloc (.map #[] 0)).alloc (.cells #[.pointer (some ⟨dg, 0, none⟩), .int .i64 (P 0), .int .i64 (P 1), .int .i64 (P 2), .int .i64 (P 3), .int .i64 (P 4), .int .i64 (P 5), .int .i64 (P 6), .int .i64 (P 7), .int .i64 (P 8), .int .i64 (P 9), .int .i64 (P 10), .int .i64 (P 11), .int .i64 0, .int .i64 0, .int .i64 0, .map (some w1.heap.size), .bool false] 97)) = u at *
  have ll : LgM u (fun k => w1.heap.size ≤ k ∧ k < u.heap.size) (w1.heap.size + 1) dg P G Lg.new ⟨w1.heap.size, fun _ => (0, 0)⟩ :=
    ⟨str, mp.congr (fun k hk => rfl), (fun b z hb' e => by cases e), ⟨by omega, by omega⟩, ⟨Nat.le_refl _, by show w1.heap.size < _; omega⟩, fun k hk => hk.2, hP, ⟨by show 0 ≤ 4294967295; omega, by show 0 < G.lg; have := hP.ok.l1; omega, Nat.zero_le _⟩⟩
  refine ⟨fun k => (w1.heap.size ≤ k ∧ k < u.heap.size) ∨ Sd k, ⟨_, Sd, _, ll, hd, fun k hk hs' => by have := hD.lt hs'; omega, fun k => Iff.rfl, bd, nd, hTb, fun h => ?_⟩, ⟨⟨b3.os, b3.tape, b3.output, b3.size, fun k hk _ => b3.block k hk⟩, fun k hk h => ?_⟩⟩
  · rcases h with h | h
    · omega
    · exact h0 h
  · rcases h with h | h
    · omega
    · exact h

/-- What Open answers. -/
def OpA (P : Nat → Int) (G : Geo) (D : Dev) (dg : Nat) (w : World) (Sd : Nat → Prop) (w' : World) (e : Ending) : Prop :=
  ∃ S', Nx Sd w S' w' ∧ ((D.dead = true ∧ e = .returned (.tuple #[.pointer none, .int .i64 7]) ∧ ∃ S2, Dv w' S2 dg D ∧ Nx Sd w S2 w') ∨ (D.dead = false ∧ parse G D.rd = none ∧ e = .returned (.tuple #[.pointer none, .int .i64 9]) ∧ ∃ S2, Dv w' S2 dg D ∧ Nx Sd w S2 w') ∨
    (D.dead = false ∧ ∃ L g, parse G D.rd = some L ∧ e = .returned (.tuple #[.pointer (some ⟨g, 0, none⟩), .int .i64 0]) ∧ Lv w' S' g dg P G L D))

/-- The device of a log, when the log is let go. -/
theorem Lv.dv {u : World} {S : Nat → Prop} {g dg : Nat} {P : Nat → Int} {G : Geo} {L : Lg} {D : Dev} (h : Lv u S g dg P G L D) {Sd : Nat → Prop} {w : World} (hx : Nx Sd w S u) : ∃ S2, Dv u S2 dg D ∧ Nx Sd w S2 u := by
  obtain ⟨Sl, S2, m, x⟩ := h
  exact ⟨S2, x.dd, ⟨hx.fr, fun k hk h2 => hx.sub k hk ((x.all k).2 (.inr h2))⟩⟩

theorem parse_bad {G : Geo} {rd : Nat → List Int} (h : ¬ (hdIs (rd 1) ∧ (hdOf (rd 1)).tail < G.lg ∧ (hdOf (rd 1)).used ≤ G.lg)) : parse G rd = none := by
  unfold parse
  rw [if_neg h]

theorem parse_ok {G : Geo} {rd : Nat → List Int} (h : hdIs (rd 1) ∧ (hdOf (rd 1)).tail < G.lg ∧ (hdOf (rd 1)).used ≤ G.lg) : parse G rd = (goP G rd ((hdOf (rd 1)).seq : Int) (hdOf (rd 1)).tail ((hdOf (rd 1)).tail + (hdOf (rd 1)).used) 600 (hdOf (rd 1)).tail ((hdOf (rd 1)).seq : Int) (fun _ => none)).map (fun Q => ⟨hdOf (rd 1), Q, false⟩) := by
  unfold parse
  rw [if_pos h]

set_option maxHeartbeats 2000000 in
theorem open_any (P : Nat → Int) (G : Geo) (dg : Nat) (Sd : Nat → Prop) (D : Dev) (w : World) (hP : PG P G) (hD : Dv w Sd dg D) (bd : D.blk = G.blk) (nd : D.n = G.n) (hT : Tab w) (h0 : ¬ Sd 0) :
    Calls Tryz.prog 23 #[.pointer (some ⟨dg, 0, none⟩), Pv P] w fun e w' => Hid (OpA P G D dg w Sd w' e) := by
  have K1 : Hid (∀ u, Below w.heap.size w u → Calls Tryz.prog 66 #[.pointer (some ⟨dg, 0, none⟩), Pv P] u fun e w' => e = .returned (.int .i64 0) ∧ Below u.heap.size u w') := fun u hu => refuses_good P G dg Sd D u hP (hD.below hu) bd nd
  have K2 : Hid (∀ w1, Below w.heap.size w w1 → ∃ S, Lv ((w1.alloc (.map #[] 0)).alloc (.cells #[.pointer (some ⟨dg, 0, none⟩), .int .i64 (P 0), .int .i64 (P 1), .int .i64 (P 2), .int .i64 (P 3), .int .i64 (P 4), .int .i64 (P 5), .int .i64 (P 6), .int .i64 (P 7), .int .i64 (P 8), .int .i64 (P 9), .int .i64 (P 10), .int .i64 (P 11), .int .i64 0, .int .i64 0, .int .i64 0, .map (some w1.heap.size), .bool false] 97)) S (w1.heap.size + 1) dg P G Lg.new D ∧ Nx Sd w S ((w1.alloc (.map #[] 0)).alloc (.cells #[.pointer (some ⟨dg, 0, none⟩), .int .i64 (P 0), .int .i64 (P 1), .int .i64 (P 2), .int .i64 (P 3), .int .i64 (P 4), .int .i64 (P 5), .int .i64 (P 6), .int .i64 (P 7), .int .i64 (P 8), .int .i64 (P 9), .int .i64 (P 10), .int .i64 (P 11), .int .i64 0, .int .i64 0, .int .i64 0, .map (some w1.heap.size), .bool false] 97))) := fun w1 hb => open_laid hP hD bd nd hT h0 hb
  have HK := hide (Kp.start w P)
  have hmk := @run_makeMap Tryz.prog
  clear hP hD bd nd hT h0
  by_cases hd : D.dead = true
  · have K3 : Hid (∀ u S g, Lv u S g dg P G Lg.new D → Nx Sd w S u → Calls Tryz.prog 67 #[.pointer (some ⟨g, 0, none⟩)] u fun e w' => e = .returned (.int .i64 7) ∧ Hid (∀ e', e' = .returned (.tuple #[.pointer none, .int .i64 7]) → OpA P G D dg w Sd w' e')) := fun u S g hl hx => by
      refine (readHeader_dead g dg S P G Lg.new D u hl hd).mono ?_
      rintro e w' ⟨rfl, hb⟩
      exact ⟨rfl, fun e' he => ⟨S, hx.below' hb, .inl ⟨hd, he, (hl.below hb).dv (hx.below' hb)⟩⟩⟩
    clear hd
    go_enter Tryz.func23, Tryz.ntmps23
    go_wp2_with fail
    go_at_call 66
    refine (unhide K1 _ (unhide HK).2).mono ?_
    rintro e w1 ⟨rfl, hb⟩
    replace HK := hide ((unhide HK).call hb)
    clear hb K1
    obtain ⟨f0, f1, f2, f3, f4, f5, f6, f7, f8, f9, f10, f11⟩ := (unhide HK).cells
    obtain ⟨S1, l1, n1⟩ := unhide K2 _ (unhide HK).2
    have K4 := hide (unhide K3 _ _ _ l1 n1)
    clear K2 K3 l1 n1 HK
    go_wp2_with fail
    go_at_call 67
    refine (unhide K4).mono ?_
    rintro e w2 ⟨rfl, X⟩
    clear K4 f0 f1 f2 f3 f4 f5 f6 f7 f8 f9 f10 f11
    go_wp2_with fail
    go_ret2
    exact unhide X _ rfl
  · replace hd : D.dead = false := by simpa using hd
    by_cases hh : hdIs (D.rd 1) ∧ (hdOf (D.rd 1)).tail < G.lg ∧ (hdOf (D.rd 1)).used ≤ G.lg
    · have hp := parse_ok (G := G) (rd := D.rd) hh
      have K3 : Hid (∀ u S g, Lv u S g dg P G Lg.new D → Nx Sd w S u → Calls Tryz.prog 67 #[.pointer (some ⟨g, 0, none⟩)] u fun e w' => e = .returned (.int .i64 0) ∧ Hid (Calls Tryz.prog 68 #[.pointer (some ⟨g, 0, none⟩)] w' fun e w2 => ∃ q : Int, e = .returned (.int .i64 q) ∧ ((q = 9 ∧ Hid (∀ e', e' = .returned (.tuple #[.pointer none, .int .i64 9]) → OpA P G D dg w Sd w2 e')) ∨ (q = 0 ∧ Hid (∀ e', e' = .returned (.tuple #[.pointer (some ⟨g, 0, none⟩), .int .i64 0]) → OpA P G D dg w Sd w2 e'))))) := fun u S g hl hx => by
        refine (readHeader_good g dg S P G Lg.new D u hl hd hh.1 hh.2.1 hh.2.2).mono ?_
        rintro e w' ⟨rfl, S', l1, n1⟩
        refine ⟨rfl, (readParts_any g dg S' P G _ D w' l1 hd _ rfl).mono ?_⟩
        rintro e w2 ⟨Q', X, (⟨hr, rfl⟩ | ⟨hr, rfl⟩)⟩
        · obtain ⟨S2, l2, n2⟩ := unhide X
          have hx2 := (hx.trans n1).trans n2
          refine ⟨9, rfl, .inl ⟨rfl, fun e' he => ⟨S2, hx2, .inr (.inl ⟨hd, ?_, he, l2.dv hx2⟩)⟩⟩⟩
          rw [hp]
          have hr2 : goP G D.rd ((hdOf (D.rd 1)).seq : Int) (hdOf (D.rd 1)).tail ((hdOf (D.rd 1)).tail + (hdOf (D.rd 1)).used) 600 (hdOf (D.rd 1)).tail ((hdOf (D.rd 1)).seq : Int) (fun _ => none) = none := hr
          rw [hr2]
          rfl
        · obtain ⟨S2, l2, n2⟩ := unhide X
          have hx2 := (hx.trans n1).trans n2
          refine ⟨0, rfl, .inr ⟨rfl, fun e' he => ⟨S2, hx2, .inr (.inr ⟨hd, _, g, ?_, he, l2⟩)⟩⟩⟩
          rw [hp]
          have hr2 : goP G D.rd ((hdOf (D.rd 1)).seq : Int) (hdOf (D.rd 1)).tail ((hdOf (D.rd 1)).tail + (hdOf (D.rd 1)).used) 600 (hdOf (D.rd 1)).tail ((hdOf (D.rd 1)).seq : Int) (fun _ => none) = some Q' := hr
          rw [hr2]
          rfl
      clear hd hh hp
      go_enter Tryz.func23, Tryz.ntmps23
      go_wp2_with fail
      go_at_call 66
      refine (unhide K1 _ (unhide HK).2).mono ?_
      rintro e w1 ⟨rfl, hb⟩
      replace HK := hide ((unhide HK).call hb)
      clear hb K1
      obtain ⟨f0, f1, f2, f3, f4, f5, f6, f7, f8, f9, f10, f11⟩ := (unhide HK).cells
      obtain ⟨S1, l1, n1⟩ := unhide K2 _ (unhide HK).2
      have K4 := hide (unhide K3 _ _ _ l1 n1)
      clear K2 K3 l1 n1 HK
      go_wp2_with fail
      go_at_call 67
      refine (unhide K4).mono ?_
      rintro e w2 ⟨rfl, K5⟩
      clear K4 f0 f1 f2 f3 f4 f5 f6 f7 f8 f9 f10 f11
      go_wp2_with fail
      go_at_call 68
      refine (unhide K5).mono ?_
      rintro e w3 ⟨q, rfl, (⟨rfl, X⟩ | ⟨rfl, X⟩)⟩
      · clear K5
        go_wp2_with fail
        go_ret2
        exact unhide X _ rfl
      · clear K5
        go_wp2_with fail
        go_ret2
        exact unhide X _ rfl
    · have hp := parse_bad (G := G) (rd := D.rd) hh
      have K3 : Hid (∀ u S g, Lv u S g dg P G Lg.new D → Nx Sd w S u → Calls Tryz.prog 67 #[.pointer (some ⟨g, 0, none⟩)] u fun e w' => e = .returned (.int .i64 9) ∧ Hid (∀ e', e' = .returned (.tuple #[.pointer none, .int .i64 9]) → OpA P G D dg w Sd w' e')) := fun u S g hl hx => by
        refine (readHeader_bad g dg S P G Lg.new D u hl hd hh).mono ?_
        rintro e w' ⟨rfl, hb⟩
        exact ⟨rfl, fun e' he => ⟨S, hx.below' hb, .inr (.inl ⟨hd, hp, he, (hl.below hb).dv (hx.below' hb)⟩)⟩⟩
      clear hd hh hp
      go_enter Tryz.func23, Tryz.ntmps23
      go_wp2_with fail
      go_at_call 66
      refine (unhide K1 _ (unhide HK).2).mono ?_
      rintro e w1 ⟨rfl, hb⟩
      replace HK := hide ((unhide HK).call hb)
      clear hb K1
      obtain ⟨f0, f1, f2, f3, f4, f5, f6, f7, f8, f9, f10, f11⟩ := (unhide HK).cells
      obtain ⟨S1, l1, n1⟩ := unhide K2 _ (unhide HK).2
      have K4 := hide (unhide K3 _ _ _ l1 n1)
      clear K2 K3 l1 n1 HK
      go_wp2_with fail
      go_at_call 67
      refine (unhide K4).mono ?_
      rintro e w2 ⟨rfl, X⟩
      clear K4 f0 f1 f2 f3 f4 f5 f6 f7 f8 f9 f10 f11
      go_wp2_with fail
      go_ret2
      exact unhide X _ rfl

end Go.Proofs.YtadnlljknocbbaaGreatDoor

/- The contract of image: all blocks behind the log, as one row. -/
namespace Go.Proofs.YtadnlljknocbbaaGreatDoor
open Go.RowKit Go.Shelf Go.Maps
set_option linter.unusedVariables false
set_option maxRecDepth 100000

/-- The first k blocks behind the log. -/
def imgL (G : Geo) (rd : Nat → List Int) (k : Nat) : List Int := ((List.range k).map (fun i => rd (G.ib + i))).flatten

theorem imgL_succ (G : Geo) (rd : Nat → List Int) (k : Nat) : imgL G rd (k + 1) = imgL G rd k ++ rd (G.ib + k) := by simp [imgL, List.range_succ]

def II (wb : World) (G : Geo) (rd : Nat → List Int) (k : Nat) (v : Value) (u : World) : Prop := ∃ a c, v = .slice a (k * G.blk) c ∧ Own wb.heap.size u a (k * G.blk) c (imgL G rd k) ∧ Below wb.heap.size wb u

theorem II.start (wb : World) (G : Geo) (rd : Nat → List Int) : II wb G rd 0 (.slice none 0 0) wb := ⟨none, 0, by simp, by rw [Nat.zero_mul]; exact ⟨rfl, Nat.le_refl _, by unfold maxLen; omega, .inl ⟨rfl, rfl, rfl⟩⟩, Below.refl _ _⟩

theorem II.step {w wb u : World} {G : Geo} (hG : G.Ok) {S : Nat → Prop} {g : Nat} {D : Dev} {k : Nat} {v : Value} (hD : Dv wb S g D) (hd : D.dead = false) (hb : D.blk = G.blk) (hn : D.n = G.n) (h : II wb G D.rd k v u) (hk : G.ib + k < G.n) :
    Calls Tryz.prog 80 #[.pointer (some ⟨g, 0, none⟩), .int .i64 ((G.ib + k : Nat) : Int)] u fun e u1 => ∃ g1, e = .returned (.tuple #[.slice (some ⟨g1, 0, none⟩) G.blk G.blk, .int .i64 0]) ∧
      Hid (∃ v' u2, (∀ ty, (Builtin.append_ #[50, 50] ty #[v, .slice (some ⟨g1, 0, none⟩) G.blk G.blk]).run Tryz.prog u1 = .ok v' u2) ∧ II wb G D.rd (k + 1) v' u2) := by
  obtain ⟨a, c, rfl, ho, hbl⟩ := h
  have hbk := hG.blk
  have hn2 := hG.n2
  refine (read_ok g (G.ib + k) S D u (hD.below hbl) hd (by omega)).mono ?_
  rintro e u1 ⟨rfl, hB, b1⟩
  refine ⟨_, by rw [hb], ?_⟩
  have hs := hbl.size
  have hs1 := b1.size
  have hlen : (D.rd (G.ib + k)).length = G.blk := by
    rw [← hb]
    exact (hD.rd_byt (by omega)).1
  have hmul : k * G.blk ≤ 4096 * 4096 := Nat.mul_le_mul (by omega) hbk.2
  obtain ⟨a', c', u2, r, o, _, b⟩ := run_append_bytes (ho.below b1 (Nat.le_refl _)) (Nat.le_trans hs hs1) G.blk (hB.has (len := G.blk) hlen) (by omega)
  refine ⟨_, u2, r, a', c', by rw [Nat.succ_mul], ?_, (hbl.trans (b1.mono hs)).trans b⟩
  rw [Nat.succ_mul, imgL_succ]
  exact o

set_option maxHeartbeats 1000000 in
theorem image_any (g : Nat) (S : Nat → Prop) (P : Nat → Int) (G : Geo) (D : Dev) (w : World) (hP : PG P G) (hD : Dv w S g D) (hd : D.dead = false) (hb : D.blk = G.blk) (hn : D.n = G.n) :
    Calls Tryz.prog 38 #[.pointer (some ⟨g, 0, none⟩), Pv P] w fun e w' => ∃ a c, e = .returned (.tuple #[.slice a ((G.n - G.ib) * G.blk) c, .bool true]) ∧ Hid (Own w.heap.size w' a ((G.n - G.ib) * G.blk) c (imgL G D.rd (G.n - G.ib)) ∧ Below w.heap.size w w') := by
  have hG := hP.ok
  have hibn := hG.ibn
  have hn2 := hG.n2
  have HK := Kp.start w P
  have hDb : Dv (w.alloc (.cells (Pc P) 25)) S g D := hD.below ((Below.refl _ _).alloc (Nat.le_refl _) _)
  have hsz : w.heap.size ≤ (w.alloc (.cells (Pc P) 25)).heap.size := HK.2.size
  have K1 : Hid (∀ u k v, II (w.alloc (.cells (Pc P) 25)) G D.rd k v u → G.ib + k < G.n → _) := fun u k v h hk => h.step (w := w) hG hDb hd hb hn hk
  have KQ : Hid (∀ u k v, II (w.alloc (.cells (Pc P) 25)) G D.rd k v u → u.cell? ⟨w.heap.size, 1, none⟩ = some (.int .i64 (G.n : Int)) ∧ u.cell? ⟨w.heap.size, 5, none⟩ = some (.int .i64 (G.ib : Int)) ∧ ∃ a c, v = .slice a (k * G.blk) c ∧ Hid (Own w.heap.size u a (k * G.blk) c (imgL G D.rd k) ∧ Below w.heap.size w u)) := fun u k v h => by
    obtain ⟨a, c, e, ho, hbl⟩ := h
    have hk := HK.call hbl
    refine ⟨by rw [← hP.p1]; exact hk.1.cell 1 (by omega), by rw [← hP.p5]; exact hk.1.cell 5 (by omega), a, c, e, ho.base hsz, hk.2⟩
  have I0 := hide (II.start (w.alloc (.cells (Pc P) 25)) G D.rd)
  obtain ⟨c1, c5, _⟩ := unhide KQ _ _ _ (unhide I0)
  clear HK hDb hD hd hb hn hG hP hsz
  generalize hnn : G.n = nn at *
  generalize hii : G.ib = ii at *
  generalize G.blk = bb at *
  clear hnn hii
  go_enter Tryz.func38, Tryz.ntmps38
  go_upto_region 2 with fail
  change Code.wp _ _ _ _ (w.alloc (.cells (Pc P) 25))
  generalize w.alloc (.cells (Pc P) 25) = wb at *
  go_wp2_with fail
  go_loopw [6, 7] (fun v i wr => ∃ k : Nat, ii + k ≤ nn ∧ i = .int .i64 ((ii + k : Nat) : Int) ∧ Hid (II wb G D.rd k v wr)) (fun _ i _ => nn - (intOf i).toNat)
  case atStart => exact ⟨0, by omega, rfl, I0⟩
  case round =>
    rename_i v
    obtain ⟨k, hk, rfl, hJ⟩ := hrel
    clear I0 c1 c5
    obtain ⟨c1, c5, a, c, rfl, X⟩ := unhide KQ _ _ _ (unhide hJ)
    by_cases hlt : ii + k < nn
    · have C := hide (unhide K1 _ _ _ (unhide hJ) hlt)
      clear X hJ K1 KQ c5
      generalize hik : ii + k = ik at *
      generalize k * bb = ln at *
      go_wp2_with fail
      go_at_call 80
      refine (unhide C).mono ?_
      rintro e u1 ⟨g1, rfl, Z⟩
      obtain ⟨v', u2, R', Z2⟩ := unhide Z
      have R := hide R'
      have Z3 := hide Z2
      clear C Z R' Z2 c1
      go_wp2_with (at_builtin; refine wpList_append_run 50 rfl _ _ rfl _ _ _ rfl rfl (unhide R) ?_; clear R)
      go_roundw
      case rel => exact ⟨k + 1, by omega, by subst hik; go_num, Z3⟩
      case measure => simp [intOf]; omega
    · obtain rfl : nn - ii = k := by omega
      have e1 : ii + (nn - ii) = nn := by omega
      rw [e1]
      clear hJ K1 KQ c5 hk e1 hlt
      go_wp2_with fail
      go_ret2
      exact ⟨_, _, rfl, X⟩

end Go.Proofs.YtadnlljknocbbaaGreatDoor

/- A law's device and log: full, small, fresh. -/
namespace Go.Proofs.YtadnlljknocbbaaGreatDoor
open Go.RowKit Go.Shelf Go.Maps
set_option linter.unusedVariables false
set_option maxRecDepth 100000

/-- A block of one byte. -/
def fl (x : Int) : List Int := List.replicate 64 x

theorem fl_len (x : Int) : (fl x).length = 64 := by simp [fl]

theorem fl_byt {x : Int} (h0 : 0 ≤ x) (h1 : x ≤ 255) : ∀ z ∈ fl x, 0 ≤ z ∧ z ≤ 255 := fun z hz => by
  have := List.eq_of_mem_replicate hz
  omega

theorem fl_set (x : Int) (k : Nat) (hk : k < 64) : (List.replicate k x ++ List.replicate (64 - k) 0).set k x = List.replicate (k + 1) x ++ List.replicate (64 - (k + 1)) 0 := by
  rw [List.set_append_right _ _ (by simp), List.length_replicate, Nat.sub_self, show 64 - k = (64 - (k + 1)) + 1 by omega, List.replicate_succ, List.set_cons_zero, List.replicate_succ', List.append_assoc]
  rfl

set_option maxRecDepth 100000 in
theorem full_any (x : Int) (w : World) :
    Calls Tryz.prog 42 #[.int .u8 x] w fun e w' => e = .returned (.slice (some ⟨w.heap.size, 0, none⟩) 64 64) ∧ Block w' w.heap.size (fl x) ∧ Below w.heap.size w w' := by
  have hmk : ∀ w : World, (Instr.makeSlice 50 (.int .i64 64) (.int .i64 64)).run Tryz.prog w = .ok (.slice (some ⟨w.heap.size, 0, none⟩) 64 64) (w.alloc (.cells (madeCells #[.int .u8 0] 64) 5)) := run_make_row' (P := Tryz.prog) 50 5 (.int .u8 0) 1 Tryz.underlying50 info5 rfl .i64 .i64 64 (by omega) (by omega)
  have B0 : Hid (Below w.heap.size w (w.alloc (.cells (madeCells #[.int .u8 0] 64) 5))) := (Below.refl _ w).alloc (Nat.le_refl _) _
  have I0 := hide (show Block (w.alloc (.cells (madeCells #[.int .u8 0] 64) 5)) w.heap.size (List.replicate 0 x ++ List.replicate (64 - 0) 0) by
    unfold Block
    rw [World.alloc_heap_new, ← Array.toArray_toList (xs := madeCells #[.int .u8 0] 64), toList_madeCells_one]
    simp)
  go_enter Tryz.func42, Tryz.ntmps42
  go_upto_region 3 with fail
  change Code.wp _ _ _ _ (w.alloc (.cells (madeCells #[.int .u8 0] 64) 5))
  generalize w.alloc (.cells (madeCells #[.int .u8 0] 64) 5) = w1 at *
  clear hmk
  go_loopw [4] (fun i wr => ∃ k : Nat, k ≤ 64 ∧ i = .int .i64 (k : Int) ∧ Hid (Block wr w.heap.size (List.replicate k x ++ List.replicate (64 - k) 0)) ∧ Hid (Below w.heap.size w wr)) (fun i _ => 64 - (intOf i).toNat)
  case atStart => exact ⟨0, Nat.zero_le _, rfl, I0, B0⟩
  case round =>
    obtain ⟨k, hk, rfl, hI, hX⟩ := hrel
    clear I0 B0
    by_cases hlt : k < 64
    · have c1 := (unhide hI).cell (i := k) (by simp; omega)
      have f1 := (unhide hI).free k
      have I2 := (unhide hI).set k x
      rw [fl_set x k hlt] at I2
      replace I2 := hide I2
      have X2 := hide ((unhide hX).setCell (p := ⟨w.heap.size, k, none⟩) (Nat.le_refl _) (.int .u8 x))
      generalize (List.replicate k x ++ List.replicate (64 - k) 0)[k]?.getD 0 = z at *
      clear hI hX
      generalize w.heap.size = g at *
      go_wp2_with fail
      exact ⟨⟨k + 1, by omega, by go_num, I2, X2⟩, by simp [intOf]; omega⟩
    · obtain rfl : k = 64 := by omega
      go_wp2_with fail
      go_ret
      refine ⟨rfl, ?_, unhide hX⟩
      have := unhide hI
      simpa [fl] using this

theorem full_row {x : Int} (h0 : 0 ≤ x) (h1 : x ≤ 255) {w : World} {g : Nat} (h : Block w g (fl x)) : Row w.heap.size w (some ⟨g, 0, none⟩) 64 64 (fl x) := h.row (fl_len x) (by omega) (fl_byt h0 h1)

/-- A header's block is read as that header. -/
theorem hd_back {G : Geo} (hG : G.Ok) {h : Hd} (hh : h.Ok G) : hdIs (hdB G h) ∧ hdOf (hdB G h) = h := by
  have hf := hdF hG hh
  have hb := hdr_back hf G.blk
  have hl := hdB_len (h := h) hG
  refine ⟨⟨by rw [hl]; exact hG.size, ?_⟩, ?_⟩
  · rw [hl]
    have := hdrH_congr hb
    unfold hdB
    rw [this]
  · simp only [Hv, Value.agg.injEq, Array.mk.injEq, List.cons.injEq, Value.int.injEq, true_and, and_true] at hb
    obtain ⟨h0, h1, h2⟩ := hb
    unfold hdOf hdB
    rw [h0, h1, h2]
    show Hd.mk ((h.seq : Int)).toNat ((h.tail : Int)).toNat ((h.used : Int)).toNat = h
    simp

/-- The plan of the laws. -/
def sP : Nat → Int := makeP 64 60 6 9

def sG : Geo := ⟨64, 60, 9⟩

theorem sG_ok : sG.Ok := ⟨.inl rfl, by decide, by decide, by decide, by decide⟩

theorem sP_make : makeE 64 60 6 9 = 0 := by decide

theorem sPG : PG sP sG := by
  have e : ∀ k, sP k = planOf 64 60 6 9 k := fun k => by unfold sP; rw [makeP_ok sP_make]
  refine ⟨?_, ?_, ?_, ?_, ?_, ?_, sG_ok⟩
  · have e0 : sP 0 = 64 := by rw [e]; rfl
    have e1 : sP 1 = 60 := by rw [e]; rfl
    have e2 : sP 2 = 6 := by rw [e]; rfl
    have e3 : sP 3 = 9 := by rw [e]; rfl
    refine checkE_ok (by rw [e0, e1, e2, e3]; exact sP_make) (fun k hk => by rw [e0, e1, e2, e3]; rfl)
  · rw [e]; rfl
  · rw [e]; rfl
  · rw [e]; rfl
  · rw [e]; rfl
  · rw [e]; rfl

theorem small_any (w : World) : Calls Tryz.prog 10 #[] w fun e w' => e = .returned (Pv sP) ∧ Below w.heap.size w w' := by
  have K : Hid (∀ u, Calls Tryz.prog 47 #[.int .i64 64, .int .i64 60, .int .i64 6, .int .i64 9] u fun e w' => e = .returned (.tuple #[Pv sP, .int .i64 0]) ∧ Below u.heap.size u w') := fun u => by
    have := refMake_any 64 60 6 9 u
    rw [sP_make] at this
    exact this
  have HZ := hide (Bl.new w #[.int .i64 0, .int .i64 0, .int .i64 0, .int .i64 0, .int .i64 0, .int .i64 0, .int .i64 0, .int .i64 0, .int .i64 0, .int .i64 0, .int .i64 0, .int .i64 0] 25)
  have HB := hide ((Below.refl w.heap.size w).alloc (Nat.le_refl _) (.cells #[.int .i64 0, .int .i64 0, .int .i64 0, .int .i64 0, .int .i64 0, .int .i64 0, .int .i64 0, .int .i64 0, .int .i64 0, .int .i64 0, .int .i64 0, .int .i64 0] 25))
  generalize sP = p at *
  go_enter Tryz.func10, Tryz.ntmps10
  go_wp2_with fail
  go_at_call 47
  refine (unhide K _).mono ?_
  rintro e w1 ⟨rfl, hb⟩
  have HZ2 := hide (((unhide HZ).call hb).alloc (.cells (Pc p) 25))
  have HB2 := hide (((unhide HB).trans (hb.mono (unhide HB).size)).alloc ((unhide HB).trans (hb.mono (unhide HB).size)).size (.cells (Pc p) 25))
  have HN := hide (Bl.new w1 (Pc p) 25)
  clear HZ HB hb K
  go_upto_region 2 with fail
  change Code.wp _ _ _ _ (w1.alloc (.cells (Pc p) 25))
  generalize w1.alloc (.cells (Pc p) 25) = w2 at *
  generalize w1.heap.size = g1 at *
  have z0 := (unhide HZ2).cell 0 (.int .i64 0) rfl
  have z1 := (unhide HZ2).cell 1 (.int .i64 0) rfl
  have z2 := (unhide HZ2).cell 2 (.int .i64 0) rfl
  have z3 := (unhide HZ2).cell 3 (.int .i64 0) rfl
  have z4 := (unhide HZ2).cell 4 (.int .i64 0) rfl
  have z5 := (unhide HZ2).cell 5 (.int .i64 0) rfl
  have z6 := (unhide HZ2).cell 6 (.int .i64 0) rfl
  have z7 := (unhide HZ2).cell 7 (.int .i64 0) rfl
  have z8 := (unhide HZ2).cell 8 (.int .i64 0) rfl
  have z9 := (unhide HZ2).cell 9 (.int .i64 0) rfl
  have z10 := (unhide HZ2).cell 10 (.int .i64 0) rfl
  have z11 := (unhide HZ2).cell 11 (.int .i64 0) rfl
  have n0 := (unhide HN).cell 0 (.int .i64 (p 0)) rfl
  have n1 := (unhide HN).cell 1 (.int .i64 (p 1)) rfl
  have n2 := (unhide HN).cell 2 (.int .i64 (p 2)) rfl
  have n3 := (unhide HN).cell 3 (.int .i64 (p 3)) rfl
  have n4 := (unhide HN).cell 4 (.int .i64 (p 4)) rfl
  have n5 := (unhide HN).cell 5 (.int .i64 (p 5)) rfl
  have n6 := (unhide HN).cell 6 (.int .i64 (p 6)) rfl
  have n7 := (unhide HN).cell 7 (.int .i64 (p 7)) rfl
  have n8 := (unhide HN).cell 8 (.int .i64 (p 8)) rfl
  have n9 := (unhide HN).cell 9 (.int .i64 (p 9)) rfl
  have n10 := (unhide HN).cell 10 (.int .i64 (p 10)) rfl
  have n11 := (unhide HN).cell 11 (.int .i64 (p 11)) rfl
  have fz := (unhide HZ2).free
  go_wp2_with fail
  have hW : Below w.heap.size w (setAll w2 w.heap.size 0 [.int .i64 (p 0), .int .i64 (p 1), .int .i64 (p 2), .int .i64 (p 3), .int .i64 (p 4), .int .i64 (p 5), .int .i64 (p 6), .int .i64 (p 7), .int .i64 (p 8), .int .i64 (p 9), .int .i64 (p 10), .int .i64 (p 11)]) := below_setAll (Nat.le_refl _) _ _ _ _ (unhide HB2)
  have hA := setAll_whole [.int .i64 (p 0), .int .i64 (p 1), .int .i64 (p 2), .int .i64 (p 3), .int .i64 (p 4), .int .i64 (p 5), .int .i64 (p 6), .int .i64 (p 7), .int .i64 (p 8), .int .i64 (p 9), .int .i64 (p 10), .int .i64 (p 11)] _ _ (unhide HZ2) rfl
  change bodyPost _ _ _ _ _ (setAll w2 w.heap.size 0 [.int .i64 (p 0), .int .i64 (p 1), .int .i64 (p 2), .int .i64 (p 3), .int .i64 (p 4), .int .i64 (p 5), .int .i64 (p 6), .int .i64 (p 7), .int .i64 (p 8), .int .i64 (p 9), .int .i64 (p 10), .int .i64 (p 11)])
  generalize setAll w2 w.heap.size 0 [.int .i64 (p 0), .int .i64 (p 1), .int .i64 (p 2), .int .i64 (p 3), .int .i64 (p 4), .int .i64 (p 5), .int .i64 (p 6), .int .i64 (p 7), .int .i64 (p 8), .int .i64 (p 9), .int .i64 (p 10), .int .i64 (p 11)] = wf at *
  refine bodyPost_ret (v := Pv p) ?_ rfl ⟨rfl, hW⟩
  simp [results, Tryz.results10, go_sem, hA.cell 0 _ rfl, hA.cell 1 _ rfl, hA.cell 2 _ rfl, hA.cell 3 _ rfl, hA.cell 4 _ rfl, hA.cell 5 _ rfl, hA.cell 6 _ rfl, hA.cell 7 _ rfl, hA.cell 8 _ rfl, hA.cell 9 _ rfl, hA.cell 10 _ rfl, hA.cell 11 _ rfl]

/-- A new log's device, and the log. -/
def sD : Dev := runD (whS sG hd1) (Dev.new 64 60)

def sL : Lg := ⟨hd1, fun _ => none, false⟩

theorem sD_run : runE (whS sG hd1) (Dev.new 64 60) = 0 := by
  unfold whS
  rw [runE_ok (by decide)]
  show runE [.f] ((Dev.new 64 60).wD 1 (hdB sG hd1)) = 0
  have : ((Dev.new 64 60).wD 1 (hdB sG hd1)).wE = 0 := by
    unfold Dev.wD
    rw [if_neg (by decide), if_pos (by show ([] : List (List Int)).length < 400; decide)]
    rfl
  rw [runE_ok this]
  rfl

theorem sD_is : sD = ((Dev.new 64 60).burn.add 1 (hdB sG hd1)).burn.flush := by
  unfold sD whS
  rw [runD_ok (by decide)]
  show runD [.f] ((Dev.new 64 60).wD 1 (hdB sG hd1)) = _
  have e1 : (Dev.new 64 60).wD 1 (hdB sG hd1) = (Dev.new 64 60).burn.add 1 (hdB sG hd1) := by
    unfold Dev.wD
    rw [if_neg (by decide), if_pos (by show ([] : List (List Int)).length < 400; decide)]
  rw [e1]
  have e2 : ((Dev.new 64 60).burn.add 1 (hdB sG hd1)).wE = 0 := rfl
  rw [runD_ok e2]
  show ((Dev.new 64 60).burn.add 1 (hdB sG hd1)).fD = _
  unfold Dev.fD
  rw [if_neg]
  rintro (h | h)
  · exact absurd h (by decide)
  · exact absurd h (by decide)

theorem sD_rd : sD.rd 1 = hdB sG hd1 := by
  rw [sD_is]
  rfl

theorem sD_live : sD.dead = false ∧ sD.blk = 64 ∧ sD.n = 60 ∧ sD.f = -1 ∧ (∀ i, i < 60 → sD.Y i = []) := by
  rw [sD_is]
  refine ⟨rfl, rfl, rfl, rfl, fun i hi => ?_⟩
  show (if i < 60 then [] else _) = []
  rw [if_pos hi]

theorem sD_parse : parse sG sD.rd = some sL := by
  obtain ⟨h1, h2⟩ := hd_back sG_ok (hd1_ok sG_ok)
  rw [parse_ok (by rw [sD_rd, h2]; exact ⟨h1, by decide, by decide⟩), sD_rd, h2]
  have : goP sG sD.rd ((hd1.seq : Nat) : Int) hd1.tail (hd1.tail + hd1.used) 600 hd1.tail ((hd1.seq : Nat) : Int) (fun _ => none) = some (fun _ => none) := by
    rw [goP, if_pos (show hd1.tail = hd1.tail + hd1.used from rfl)]
    simp
  rw [this]
  rfl

/-- A law's log and device; B is where its memory begins. -/
structure WL (B : Nat) (w : World) (g dg : Nat) (L : Lg) (D : Dev) (u : World) (S : Nat → Prop) : Prop where
  lv : Lv u S g dg sP sG L D
  ge : ∀ k, S k → B ≤ k
  bel : Below B w u
  sz : B ≤ w.heap.size

theorem WL.later {B : Nat} {w : World} {g dg : Nat} {L : Lg} {D : Dev} {u u' : World} {S : Nat → Prop} (h : WL B w g dg L D u S) (hb : Below u.heap.size u u') : WL B w g dg L D u' S :=
  ⟨h.lv.below hb, h.ge, h.bel.trans (hb.mono (Nat.le_trans h.sz h.bel.size)), h.sz⟩

theorem WL.nx {B : Nat} {w : World} {g dg : Nat} {L L' : Lg} {D D' : Dev} {u u' : World} {S S' : Nat → Prop} (h : WL B w g dg L D u S) (hl : Lv u' S' g dg sP sG L' D') (hx : Nx S u S' u') : WL B w g dg L' D' u' S' :=
  ⟨hl, hx.base h.ge (Nat.le_trans h.sz h.bel.size), h.bel.trans (hx.below h.ge (Nat.le_trans h.sz h.bel.size)), h.sz⟩

def WD (B : Nat) (w : World) (g dg : Nat) (L : Lg) (D : Dev) (u : World) : Prop := ∃ S, WL B w g dg L D u S

theorem WD.later {B : Nat} {w : World} {g dg : Nat} {L : Lg} {D : Dev} {u u' : World} (h : WD B w g dg L D u) (hb : Below u.heap.size u u') : WD B w g dg L D u' := by
  obtain ⟨S, h⟩ := h
  exact ⟨S, h.later hb⟩

theorem WD.bel {B : Nat} {w : World} {g dg : Nat} {L : Lg} {D : Dev} {u : World} (h : WD B w g dg L D u) : Below B w u := by obtain ⟨S, h⟩ := h; exact h.bel

theorem new_sE : newE 64 60 = 0 := by decide

/-- New, Format and Open behind each other. -/
theorem fresh_chain (w u : World) (hT : Tab w) (hu : Below w.heap.size w u) :
    Calls Tryz.prog 36 #[.int .i64 (sP 0), .int .i64 (sP 1)] u fun e w1 => ∃ dg, e = .returned (.tuple #[.pointer (some ⟨dg, 0, none⟩), .int .i64 0]) ∧ Below u.heap.size u w1 ∧ Hid (∀ u1, Below w1.heap.size w1 u1 →
      Calls Tryz.prog 37 #[.pointer (some ⟨dg, 0, none⟩), Pv sP] u1 fun e w2 => e = .returned (.int .i64 0) ∧ Below u.heap.size u w2 ∧ Hid (∀ u2, Below w2.heap.size w2 u2 →
        Calls Tryz.prog 23 #[.pointer (some ⟨dg, 0, none⟩), Pv sP] u2 fun e w3 => ∃ g, e = .returned (.tuple #[.pointer (some ⟨g, 0, none⟩), .int .i64 0]) ∧ Hid (WD w.heap.size w g dg sL sD w3))) := by
  have e0 : sP 0 = ((64 : Nat) : Int) := sPG.p0
  have e1 : sP 1 = ((60 : Nat) : Int) := sPG.p1
  rw [e0, e1]
  refine (new_ok 64 60 u new_sE).mono ?_
  rintro e w1 ⟨dg, S, rfl, hD, hS, hb1⟩
  refine ⟨dg, rfl, hb1, fun u1 hb2 => ?_⟩
  have hus := hu.size
  have hT0 := hT.lt
  have hb12 : Below u.heap.size u u1 := hb1.trans (hb2.mono hb1.size)
  have bw1 : Below w.heap.size w u1 := hu.trans (hb12.mono hus)
  have h0 : ¬ S 0 := fun h => by have := hS 0 h; omega
  have hf := format_any sP sG dg S (Dev.new 64 60) u1 sPG (hD.below hb2) rfl rfl (hT.kept (bw1.block 0 hT0)) h0
  rw [sD_run] at hf
  refine hf.mono ?_
  rintro e w2 ⟨rfl, S2, d2, n2⟩
  have ge2 : ∀ k, S2 k → u.heap.size ≤ k := n2.base hS hb12.size
  have bu2 : Below u.heap.size u w2 := hb12.trans (n2.below hS hb12.size)
  refine ⟨rfl, bu2, fun u2 hb3 => ?_⟩
  have bu3 : Below u.heap.size u u2 := bu2.trans (hb3.mono bu2.size)
  have bw3 : Below w.heap.size w u2 := hu.trans (bu3.mono hus)
  have h02 : ¬ S2 0 := fun h => by have := ge2 0 h; omega
  refine (open_any sP sG dg S2 sD u2 sPG (Dv.below (show Dv w2 S2 dg sD from d2) hb3) sD_live.2.1 sD_live.2.2.1 (hT.kept (bw3.block 0 hT0)) h02).mono ?_
  intro e w3 X
  obtain ⟨S3, n3, (⟨hx, _⟩ | ⟨_, hx, _⟩ | ⟨_, L, g, hp, he, hl⟩)⟩ := unhide X
  · rw [sD_live.1] at hx; cases hx
  · rw [sD_parse] at hx; cases hx
  · rw [sD_parse] at hp
    cases hp
    have ge3 : ∀ k, S3 k → u.heap.size ≤ k := n3.base ge2 bu3.size
    exact ⟨g, he, S3, hl, fun k hk => Nat.le_trans hus (ge3 k hk), bw3.trans (n3.below (fun k hk => Nat.le_trans hus (ge2 k hk)) bw3.size), Nat.le_refl _⟩

set_option maxHeartbeats 1000000 in
theorem fresh_any (w : World) (hT : Tab w) : Calls Tryz.prog 11 #[Pv sP] w fun e w' => ∃ dg g, e = .returned (.tuple #[.pointer (some ⟨dg, 0, none⟩), .pointer (some ⟨g, 0, none⟩)]) ∧ Hid (WD w.heap.size w g dg sL sD w') := by
  have K : Hid (∀ u, Below w.heap.size w u → _) := fun u hu => fresh_chain w u hT hu
  have HK := hide (Kp.start w sP)
  clear hT
  generalize sP = p at *
  go_enter Tryz.func11, Tryz.ntmps11
  go_wp2_with fail
  go_at_call 36
  refine (unhide K _ (unhide HK).2).mono ?_
  rintro e w1 ⟨dg, rfl, hb1, K2⟩
  have HK1 := hide ((unhide HK).call hb1)
  have KF := hide (unhide K2 _ (Below.refl _ _))
  clear K K2 hb1
  obtain ⟨f0, f1, f2, f3, f4, f5, f6, f7, f8, f9, f10, f11⟩ := (unhide HK1).cells
  go_wp2_with fail
  go_at_call 37
  refine (unhide KF).mono ?_
  rintro e w2 ⟨rfl, hb2, K3⟩
  have HK2 := hide ((unhide HK).call hb2)
  have KO := hide (unhide K3 _ (Below.refl _ _))
  clear KF K3 hb2 HK1 f0 f1 f2 f3 f4 f5 f6 f7 f8 f9 f10 f11
  obtain ⟨f0, f1, f2, f3, f4, f5, f6, f7, f8, f9, f10, f11⟩ := (unhide HK2).cells
  go_wp2_with fail
  go_at_call 23
  refine (unhide KO).mono ?_
  rintro e w3 ⟨g, rfl, X⟩
  clear KO HK HK2 f0 f1 f2 f3 f4 f5 f6 f7 f8 f9 f10 f11
  go_wp2_with fail
  go_ret2
  exact ⟨dg, g, rfl, X⟩

end Go.Proofs.YtadnlljknocbbaaGreatDoor


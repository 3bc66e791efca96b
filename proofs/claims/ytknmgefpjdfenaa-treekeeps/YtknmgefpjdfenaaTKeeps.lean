/- The walk of TreeKeeps. -/
import Derived.Test.YtknmgefpjdfenaaTKeepA
import Derived.Deep.RegionHeld3
namespace Go.Proofs.Ytknmgefpjdfenaa
open Go.RowKit Go.Shelf Go.Maps
set_option linter.unusedVariables false
set_option maxRecDepth 100000

theorem block_has {w : World} {R len : Nat} {zs : List Int} (h : Block w R (rm zs 4)) (hl : zs.length = len) : Has w (some ⟨R, 0, none⟩) len zs := by
  refine ⟨hl, fun _ => ⟨R, 0, rfl, fun j hj => ?_⟩⟩
  rw [Nat.zero_add, h.cell (by rw [rm_length _ _ (Nat.le_refl _)]; omega)]
  unfold rm
  rw [List.getElem?_append_left (by omega)]

/-- Behind the setup: the tree, r's row, and the world. -/
structure KW (W : World) (g r b R len : Nat) (zs : List Int) (w : World) : Prop where
  tm : ∃ S s, TM w S g s ∧ TS s r b zs ∧ (∀ k, S k → W.heap.size ≤ k ∧ k ≠ R)
  rw : ∃ ds : List Int, ds.length = len + 4 ∧ Block w R ds
  bl : Below W.heap.size W w
  hi : W.heap.size ≤ R

theorem KW.below {W w w' : World} {g r b R len : Nat} {zs : List Int} (h : KW W g r b R len zs w) (hb : Below w.heap.size w w') : KW W g r b R len zs w' := by
  obtain ⟨S, s, h1, h2, h3⟩ := h.tm
  obtain ⟨ds, h4, h5⟩ := h.rw
  exact ⟨⟨S, s, h1.below hb, h2, h3⟩, ⟨ds, h4, (hb.block R h5.lt).trans h5⟩, h.bl.trans (hb.mono h.bl.size), h.hi⟩

theorem KW.read {W w : World} {g r b R len : Nat} {zs : List Int} (h : KW W g r b R len zs w) (hl : zs.length = len) (h2 : len ≤ 300) :
    Calls Try.prog 11 #[.pointer (some ⟨g, 0, none⟩), .int .i64 0, .int .i64 0, .int .i64 300] w fun e w' => ∃ a c, e = .returned (.tuple #[.slice a len c, .int .i64 0]) ∧ Own w.heap.size w' a len c zs ∧ Below w.heap.size w w' := by
  obtain ⟨S, s, h1, h3, _⟩ := h.tm
  have := h3.read h1 (by omega)
  rw [hl] at this
  exact this

/-- The second Node of a list. -/
theorem DL.two {B : Nat} {w : World} {v : Value} {x y : Nd} (h : DL B w v [x, y]) : ∃ gm cap, v = .slice (some ⟨gm, 0, none⟩) 2 cap ∧ w.cell? ⟨gm, 11, none⟩ = some (.slice y.da y.t.d.length y.dc) ∧ ∃ cur, w.heap[gm]? = some (.cells cur 39 (0, 0)) := by
  have hc := fun g (e : _) => h.1.cells (g := g) e
  rcases h.1.2 with ⟨_, hn⟩ | ⟨gm, cap, cur, rfl, _, hh, _⟩
  · cases hn
  · have := hc gm rfl 11 (.slice y.da y.t.d.length y.dc) rfl
    rw [World.add_zero_spot, Nat.zero_add] at this
    exact ⟨gm, cap, rfl, this, cur, hh⟩

theorem KW.dump {W w : World} {g r b R len : Nat} {zs : List Int} (h : KW W g r b R len zs w) (hl : zs.length = len) (h2 : len ≤ 300) :
    Calls Try.prog 12 #[.pointer (some ⟨g, 0, none⟩)] w fun e w' => ∃ gm cap a c, e = .returned (.slice (some ⟨gm, 0, none⟩) 2 cap) ∧ w'.cell? ⟨gm, 11, none⟩ = some (.slice a len c) ∧ (∃ cur, w'.heap[gm]? = some (.cells cur 39 (0, 0))) ∧ Own w.heap.size w' a len c zs ∧ Below w.heap.size w w' := by
  obtain ⟨S, s, h1, h3, _⟩ := h.tm
  refine (h3.dump h1 (by omega)).mono ?_
  rintro e w' ⟨v, x, y, rfl, hD, hy, hb⟩
  obtain ⟨gm, cap, rfl, hc, hlt⟩ := hD.two
  have ho := hD.2 y (by simp)
  rw [hy, hl] at ho hc
  exact ⟨gm, cap, y.da, y.dc, rfl, hc, hlt, ho, hb⟩

theorem not_T {B Lb : Nat} {ts : List Trip} {k : Nat} (h : ∀ t ∈ ts, t.1 ≠ some ⟨k, 0, none⟩) : ¬ FA.T (listsOf B Lb ts) k := by
  rintro ⟨p, hp, e⟩
  have hp' : p < ts.length := hp
  have e' : (tripAt ts p).1 = some ⟨k, 0, none⟩ := e
  rw [tripAt_eq hp'] at e'
  exact h _ (List.getElem_mem hp') e'

/-- No row of bytes starts in a block of Nodes. -/
theorem Own.no_node {B : Nat} {w : World} {a : Option Addr} {n c k : Nat} {xs : List Int} (h : Own B w a n c xs) (hk : ∃ cur, w.heap[k]? = some (.cells cur 39 (0, 0))) : a ≠ some ⟨k, 0, none⟩ := by
  intro e
  obtain ⟨_, _, cur, h1⟩ := h.lt e
  obtain ⟨cur2, h2⟩ := hk
  rw [h2] at h1
  simp at h1

/-- A list of one Entry. -/
theorem ents_one {B : Nat} {w : World} {v : Value} {n1 n2 : Int} (h : w.ownsRow B 46 3 v 1 [.string ⟨#[97]⟩, .int .i64 n1, .int .i64 n2]) : ∃ g c, v = .slice (some ⟨g, 0, none⟩) 1 c ∧
    (w.cell? ⟨g, 0, none⟩ = some (.string ⟨#[97]⟩) ∧ w.cell? ⟨g, 1, none⟩ = some (.int .i64 n1) ∧ w.cell? ⟨g, 2, none⟩ = some (.int .i64 n2) ∧ (∀ k, w.frozen? ⟨g, k, none⟩ = false)) ∧ B ≤ g ∧ g < w.heap.size := by
  have hc := fun g (e : _) => h.cells (g := g) e
  rcases h.2 with ⟨_, hn⟩ | ⟨g, cap, cur, rfl, hB, hh, _⟩
  · cases hn
  · have f := fun (j : Nat) (u : Value) (hj : ([.string ⟨#[97]⟩, .int .i64 n1, .int .i64 n2] : List Value)[j]? = some u) => hc g rfl j u hj
    have c0 := f 0 _ rfl
    have c1 := f 1 _ rfl
    have c2 := f 2 _ rfl
    rw [World.add_zero_spot, Nat.zero_add] at c0 c1 c2
    exact ⟨g, cap, rfl, ⟨c0, c1, c2, fun k => by simp [World.frozen?, hh]⟩, hB, (Array.getElem?_eq_some_iff.1 hh).1⟩

set_option maxHeartbeats 8000000 in
theorem keeps_walk (x : Addr) (len cap : Nat) (zs : List Int) (y : Int) (W : World) (hR : Row W.heap.size W (some x) len cap zs) (h1 : 1 ≤ len) (h2 : len ≤ 300) :
    Calls Try.prog 3 #[.slice (some x) len cap, .int .u8 y] W fun e w' => e = .returned (.bool true) ∧ Below W.heap.size W w' := by
  have KWk := hide (wakes_any W)
  have d1 : decide ((len : Int) > 300) = false := by simp; omega
  have d2 : ((len : Int) == 0) = false := by simp; omega
  have HR := hide hR
  have hzl := hR.1
  clear hR
  go_enter Try.func3, Try.ntmps3
  go_wp2_with fail
  refine (unhide KWk).mono ?_
  rintro e w1 ⟨rfl, hb⟩
  have HB := hide hb
  have KN := hide (new_ok (n := 5000) (by decide) (by decide) w1)
  clear KWk hb
  go_wp2_with fail
  refine (unhide KN).mono ?_
  rintro e w2 ⟨g, r, mp, ra, rc, S, rfl, htm, hS, hb⟩
  have htr : (Tr0 5000 r mp ra rc).T r = some (rootT mp) := if_pos rfl
  have KC := hide (create_new htm (ok_root 5000 r mp ra rc) spl_a (plc_here htr rfl) htr rfl rfl (by show 0 < 1000000000; omega) (keep_free r mp ra rc) (by omega) (by show 2 ≤ 1000000; omega))
  have hrS : r < w2.heap.size := htm.lt r (htm.sb r _ htr)
  have HB := hide (HB.out.trans (hb.mono HB.out.size))
  have HS : Hid (∀ k, S k → W.heap.size ≤ k) := fun k hk => by
    have h9 := hS k hk
    have h8 : W.heap.size ≤ w1.heap.size := ‹Hid (Below W.heap.size W w1)›.out.size
    omega
  clear KN htm hb hS htr
  change Hid (Calls Try.prog 6 #[.pointer (some ⟨g, 0, none⟩), .string ⟨#[47, 97]⟩] w2 _) at KC
  go_wp2_with fail
  refine (unhide KC).mono ?_
  rintro e w3 ⟨b1, m1, ra1, rc1, rfl, hb1, htm, hkp⟩
  have hbr : b1 ≠ r := by omega
  have hS3 : ∀ k, Up S w2.heap.size w3.heap.size k → W.heap.size ≤ k := fun k hk => hk.elim (HS.out k) (fun q => Nat.le_trans HB.out.size q.1)
  have hB3 : Below W.heap.size W w3 := HB.out.trans (hkp.below HB.out.size HS.out)
  have hTb : ((Tr0 5000 r mp ra rc).made 2 1 r (rootT mp) [97] b1 m1 ra1 rc1).T b1 = some { newT 1 2 m1 with l := 1 } := by rw [made_T, if_neg hbr, if_pos rfl]
  have hTr : ((Tr0 5000 r mp ra rc).made 2 1 r (rootT mp) [97] b1 m1 ra1 rc1).T r = some { rootT mp with ns := [([97], b1)] } := by rw [made_T, if_pos rfl]; rfl
  have hgo : go ((Tr0 5000 r mp ra rc).made 2 1 r (rootT mp) [97] b1 m1 ra1 rc1) ([] ++ [[97]]) r = (0, some b1) := by
    show go _ [[97]] r = _
    rw [go_step hTr rfl (show ([([97], b1)] : NS).lookup [97] = some b1 from rfl)]
    rfl
  have KO := hide (open_ok htm (keep_ok hbr) spl_a hgo hTb rfl (f := 0) ⟨by omega, rfl, fun i hi => by omega⟩)
  have HB := hide hB3
  have HS := hide hS3
  clear KC htm hkp hb1 hB3 hS3 hgo hTr
  change Hid (Calls Try.prog 7 #[.pointer (some ⟨g, 0, none⟩), .string ⟨#[47, 97]⟩] w3 (fun e w' => e = .returned (.tuple #[.int .i64 0, .int .i64 0]) ∧ _)) at KO
  go_wp2_with fail
  refine (unhide KO).mono ?_
  rintro e w4 ⟨rfl, htm, hkp⟩
  have hB4 : Below W.heap.size W w4 := HB.out.trans (hkp.below HB.out.size HS.out)
  have KR := hide (roomy_any (some x) len cap zs w4 (HR.out.below hB4 hB4.size))
  have HB := hide hB4
  have HT := hide htm
  clear KO htm hkp hB4
  go_wp2_with fail
  refine (unhide KR).mono ?_
  rintro e w5 ⟨rfl, hblk, hb⟩
  have hsz5 : w4.heap.size < w5.heap.size := hblk.lt
  have htm5 := HT.out.below hb
  have hB5 : Below W.heap.size W w5 := HB.out.trans (hb.mono HB.out.size)
  have hR4 : ∀ k, Up S w2.heap.size w3.heap.size k → k < w4.heap.size := HT.out.lt
  have hTb5 : (((Tr0 5000 r mp ra rc).made 2 1 r (rootT mp) [97] b1 m1 ra1 rc1).opened 0 (some b1)).T b1 = some { newT 1 2 m1 with l := 1 } := hTb
  have KWr := hide (write_ok htm5 (f := 0) (by omega) (show (((Tr0 5000 r mp ra rc).made 2 1 r (rootT mp) [97] b1 m1 ra1 rc1).opened 0 (some b1)).opn 0 = some b1 from rfl) ((keep_ok hbr).opened 0 (some b1)).row_ne hTb5 0 (some ⟨w4.heap.size, 0, none⟩) len (len + 4) zs (block_has hblk hzl) (by omega) (by omega)
    (show ((0 : Nat) : Int) + (len : Int) ≤ 5000 by omega) (show (5000 : Int) ≤ 524288 by omega) (by show 0 ≤ 1000000; omega) (fun q e => by cases e; exact ⟨fun hS' => by have := hR4 _ hS'; simp at this, hsz5⟩))
  rw [show wrD ({ newT 1 2 m1 with l := 1 } : Th).d 0 zs = zs from wrD_nil zs] at KWr
  have HK5 : Hid (Block w5 w4.heap.size (rm zs 4) ∧ Below W.heap.size W w5 ∧ w4.heap.size < w5.heap.size) := ⟨hblk, hB5, hsz5⟩
  have HW4 : Hid (W.heap.size ≤ w4.heap.size ∧ (∀ k, Up S w2.heap.size w3.heap.size k → k < w4.heap.size)) := ⟨HB.out.size, hR4⟩
  clear KR hblk hb hsz5 htm5 hB5 hR4 HT hTb hTb5 HB
  generalize w4.heap.size = R at *
  change Hid (Calls Try.prog 9 #[.pointer (some ⟨g, 0, none⟩), .int .i64 0, .int .i64 0, .slice (some ⟨R, 0, none⟩) len (len + 4)] w5 _) at KWr
  go_wp2_with fail
  refine (unhide KWr).mono ?_
  rintro e w6 ⟨da, dc, rfl, htm, hkp⟩
  have HX : Hid ((∃ S s, TM w6 S g s ∧ TS s r b1 zs ∧ (∀ k, S k → W.heap.size ≤ k ∧ k ≠ R)) ∧ Block w6 R (rm zs 4) ∧ Below W.heap.size W w6 ∧ W.heap.size ≤ R) := by
    obtain ⟨q1, q2, q3⟩ := HK5.out
    obtain ⟨q4, q5⟩ := HW4.out
    have hRS : ¬ Up S w2.heap.size w3.heap.size R := fun e => by have := q5 R e; omega
    refine ⟨⟨_, _, htm, keep_TS hbr zs da dc, fun k hk => ?_⟩, (hkp.block R q3 hRS).trans q1, q2.trans (hkp.below q2.size HS.out), q4⟩
    rcases hk with hk | hk
    · exact ⟨HS.out k hk, fun e => hRS (by rw [← e]; exact hk)⟩
    · exact ⟨Nat.le_trans q2.size hk.1, by omega⟩
  have KK := hide (kept_any R (some x) len cap zs w6 (by omega) HX.out.2.1 (HR.out.below HX.out.2.2.1 HX.out.2.2.1.size).has)
  clear KWr htm hkp HK5 HW4 HS
  go_wp2_with fail
  refine (unhide KK).mono ?_
  rintro e w7 ⟨rfl, hb⟩
  have HY : Hid (KW W g r b1 R len zs w7) := by
    obtain ⟨⟨S', s', q1, q2, q3⟩, q4, q5, q6⟩ := HX.out
    exact ⟨⟨S', s', q1.below hb, q2, q3⟩, ⟨rm zs 4, by rw [rm_length _ _ (Nat.le_refl _)]; omega, (hb.block R q4.lt).trans q4⟩, q5.trans (hb.mono q5.size), q6⟩
  clear KK hb HX
  go_wp2_with fail
  go_loopw [11] (fun iv wr => ∃ k : Nat, k ≤ len ∧ iv = .int .i64 (k : Int) ∧ Hid (KW W g r b1 R len zs wr)) (fun iv _ => (len : Int).toNat - (intOf iv).toNat)
  case atStart => exact ⟨0, Nat.zero_le _, rfl, HY⟩
  case round =>
    obtain ⟨k, hk, rfl, hJ⟩ := hrel
    clear HY
    by_cases hlt : k < len
    · obtain ⟨ds, hdl, hblk⟩ := hJ.out.rw
      have hcl := hblk.cell (i := k) (by omega)
      have hcf := hblk.free k
      have k0 : (0 : Int) ≤ (k : Int) := by omega
      have k1 : (k : Int) < (len : Int) := by omega
      have HJ : Hid (KW W g r b1 R len zs (wr.setCell ⟨R, k, none⟩ (.int .u8 y))) := by
        obtain ⟨S', s', q1, q2, q3⟩ := hJ.out.tm
        have ko : ∀ j, j ≠ R → (wr.setCell ⟨R, k, none⟩ (.int .u8 y)).heap[j]? = wr.heap[j]? := fun j hj => Below.heap_setCell _ _ _ _ hj
        refine ⟨⟨S', s', q1.kept (fun j hj => ko j (q3 j hj).2) (fun _ h => h) (fun j hj => by simpa [World.setCell] using q1.lt j hj), q2, q3⟩, ⟨ds.set k y, by simpa using hdl, hblk.set k y⟩, hJ.out.bl.setCell (p := ⟨R, k, none⟩) hJ.out.hi _, hJ.out.hi⟩
      clear hJ hblk hdl
      go_wp2_with fail
      go_roundw
      case rel => exact ⟨k + 1, by omega, by go_num, HJ⟩
      case measure => simp [intOf]; omega
    · obtain rfl : len = k := by omega
      clear hbr
      have hRlt : R < wr.heap.size := by obtain ⟨ds, _, hblk⟩ := hJ.out.rw; exact hblk.lt
      have KA := hide (hJ.out.read hzl h2)
      go_wp2_with fail
      refine (unhide KA).mono ?_
      rintro e w8 ⟨ac, cc, rfl, oc, hb⟩
      have HJ8 := hide (hJ.out.below hb)
      have HC := hide oc
      have HQ := hide hb
      have hs8 : wr.heap.size ≤ w8.heap.size := hb.size
      have KA := hide (HJ8.out.read hzl h2)
      clear oc hb
      go_wp2_with fail
      refine (unhide KA).mono ?_
      rintro e w9 ⟨ad, cd, rfl, od, hb⟩
      have HJ9 := hide (HJ8.out.below hb)
      have Acd := hide (aside_of (t := (ac, len, cc)) (u := (ad, len, cd)) HC.out od (Nat.le_refl _))
      have HC := hide (HC.out.below hb (Nat.le_refl _))
      have HD := hide od
      have HQ := hide (HQ.out.trans (hb.mono HQ.out.size))
      have hs9 : w8.heap.size ≤ w9.heap.size := hb.size
      have KA := hide (HJ9.out.dump hzl h2)
      clear od hb HJ8
      go_wp2_with fail
      refine (unhide KA).mono ?_
      rintro e w10 ⟨gm, cm, am, dm, rfl, hcm, hgm, om, hb⟩
      have HJ10 := hide (HJ9.out.below hb)
      have Acm := hide (aside_of (t := (ac, len, cc)) (u := (am, len, dm)) HC.out om (Nat.le_refl _))
      have Adm := hide (aside_of (t := (ad, len, cd)) (u := (am, len, dm)) HD.out om (Nat.le_refl _))
      have HC := hide (HC.out.below hb (Nat.le_refl _))
      have HD := hide (HD.out.below hb (Nat.le_refl _))
      have HM := hide om
      have HQ := hide (HQ.out.trans (hb.mono HQ.out.size))
      have hs10 : w9.heap.size ≤ w10.heap.size := hb.size
      have KA := hide (HJ10.out.dump hzl h2)
      clear om hb HJ9
      go_wp2_with fail
      refine (unhide KA).mono ?_
      rintro e w11 ⟨gn, cn, an, dn, rfl, hcn, hgn, on, hb⟩
      have HJ11 := hide (HJ10.out.below hb)
      have Acn := hide (aside_of (t := (ac, len, cc)) (u := (an, len, dn)) HC.out on (Nat.le_refl _))
      have Adn := hide (aside_of (t := (ad, len, cd)) (u := (an, len, dn)) HD.out on (Nat.le_refl _))
      have Amn := hide (aside_of (t := (am, len, dm)) (u := (an, len, dn)) HM.out on (Nat.le_refl _))
      have HC := hide (HC.out.below hb (Nat.le_refl _))
      have HD := hide (HD.out.below hb (Nat.le_refl _))
      have HM := hide (HM.out.below hb (Nat.le_refl _))
      have HN := hide on
      have HQ := hide (HQ.out.trans (hb.mono HQ.out.size))
      have hs11 : w10.heap.size ≤ w11.heap.size := hb.size
      have hgml : gm < w10.heap.size := by obtain ⟨_, hh⟩ := hgm; exact (Array.getElem?_eq_some_iff.1 hh).1
      have hcm : w11.cell? ⟨gm, 11, none⟩ = some (.slice am len dm) := (hb.cell (p := ⟨gm, 11, none⟩) hgml).trans hcm
      have HG : Hid ((∃ cur, w11.heap[gm]? = some (.cells cur 39 (0, 0))) ∧ ∃ cur, w11.heap[gn]? = some (.cells cur 39 (0, 0))) := ⟨by obtain ⟨cur, hh⟩ := hgm; exact ⟨cur, (hb.block gm hgml).trans hh⟩, hgn⟩
      clear hgm hgn hgml
      have hHb : Has w11 (some x) len zs := (HR.out.below HJ11.out.bl HJ11.out.bl.size).has
      have K1 : Hid (Calls Try.prog 13 #[.slice ac len cc, .slice (some x) len cap] w11 fun e w' => e = .returned (.bool true) ∧ w11 = w') := same_true ac (some x) len cc cap zs w11 HC.out.has hHb
      have K2 : Hid (Calls Try.prog 13 #[.slice am len dm, .slice (some x) len cap] w11 fun e w' => e = .returned (.bool true) ∧ w11 = w') := same_true am (some x) len dm cap zs w11 HM.out.has hHb
      clear on hb HJ10 KA hHb
      go_wp2_with fail
      refine (unhide K1).mono ?_
      rintro e w12 ⟨rfl, rfl⟩
      go_wp2_with fail
      refine (unhide K2).mono ?_
      rintro e w12 ⟨rfl, rfl⟩
      clear K1 K2
      go_wp2_with fail
      have KB : Hid (Calls Try.prog 14 #[.slice (some ⟨w11.heap.size, 0, none⟩) 5 5] ((w11.alloc (.cells #[.slice ac len cc, .slice ad len cd, .slice am len dm, .slice an len dn, .slice (some ⟨R, 0, none⟩) len (len + 4)] 22)).drew) fun e w' => e = .returned (.bool true) ∧
          ((∃ S s, TM w' S g s ∧ TS s r b1 zs ∧ (∀ k, S k → W.heap.size ≤ k)) ∧ Below W.heap.size W w') ∧ w'.cell? ⟨gm, 11, none⟩ = some (.slice am len dm) ∧ w'.cell? ⟨gn, 11, none⟩ = some (.slice an len dn)) := by
        obtain ⟨S', s', htm, hts, hS'⟩ := hJ.out.tm
        obtain ⟨ds, hdl, hblk⟩ := HJ11.out.rw
        have hRo : Own W.heap.size w11 (some ⟨R, 0, none⟩) len (len + 4) (ds.take len) :=
          ⟨by simp; omega, by omega, by unfold maxLen; omega, .inr ⟨R, _, rfl, HJ11.out.hi, hblk, by simp [hdl], by rw [List.toList_toArray, List.map_take]⟩⟩
        have hWwr : W.heap.size ≤ wr.heap.size := hJ.out.bl.size
        have hsA : w11.heap.size < (w11.alloc (.cells #[.slice ac len cc, .slice ad len cd, .slice am len dm, .slice an len dn, .slice (some ⟨R, 0, none⟩) len (len + 4)] 22)).heap.size := by simp
        have hbA : Below w11.heap.size w11 ((w11.alloc (.cells #[.slice ac len cc, .slice ad len cd, .slice am len dm, .slice an len dn, .slice (some ⟨R, 0, none⟩) len (len + 4)] 22)).drew) := bd1 ((Below.refl _ _).alloc (Nat.le_refl _) _)
        have hLb : ((w11.alloc (.cells #[.slice ac len cc, .slice ad len cd, .slice am len dm, .slice an len dn, .slice (some ⟨R, 0, none⟩) len (len + 4)] 22)).drew).heap[w11.heap.size]? = some (.cells #[.slice ac len cc, .slice ad len cd, .slice am len dm, .slice an len dn, .slice (some ⟨R, 0, none⟩) len (len + 4)] 22 (0, 0)) := World.alloc_heap_new _ _
        have arC : ∀ (u : Trip) (n : Nat) (v : World) (ys : List Int), Own n v u.1 u.2.1 u.2.2 ys → wr.heap.size ≤ n → Aside u (some ⟨R, 0, none⟩, len, len + 4) := fun u n v ys ho hn gg e e' => by
          have h9 := (ho.lt e).2.1
          cases e'
          omega
        have hAp := FA.apart_list W.heap.size w11.heap.size 5 [(ac, len, cc), (ad, len, cd), (am, len, dm), (an, len, dn), (some ⟨R, 0, none⟩, len, len + 4)] ((w11.alloc (.cells #[.slice ac len cc, .slice ad len cd, .slice am len dm, .slice an len dn, .slice (some ⟨R, 0, none⟩) len (len + 4)] 22)).drew) rfl (by omega)
          (by intro u hu; simp at hu; rcases hu with rfl | rfl | rfl | rfl | rfl <;> simp <;> omega) (Nat.le_of_lt (Nat.lt_of_le_of_lt HJ11.out.hi (Nat.lt_of_lt_of_le hRlt (by omega))))
          (by
            refine List.pairwise_cons.2 ⟨fun u hu => ?_, List.pairwise_cons.2 ⟨fun u hu => ?_, List.pairwise_cons.2 ⟨fun u hu => ?_, List.pairwise_cons.2 ⟨fun u hu => ?_, by simp⟩⟩⟩⟩
            · simp at hu; rcases hu with rfl | rfl | rfl | rfl
              · exact Acd.out
              · exact Acm.out
              · exact Acn.out
              · exact arC (ac, len, cc) _ _ _ HC.out (Nat.le_refl _)
            · simp at hu; rcases hu with rfl | rfl | rfl
              · exact Adm.out
              · exact Adn.out
              · exact arC (ad, len, cd) _ _ _ HD.out hs8
            · simp at hu; rcases hu with rfl | rfl
              · exact Amn.out
              · exact arC (am, len, dm) _ _ _ HM.out (by omega)
            · simp at hu; subst hu
              exact arC (an, len, dn) _ _ _ HN.out (by omega))
          hLb
          (by
            intro u hu; simp at hu
            rcases hu with rfl | rfl | rfl | rfl | rfl
            · exact ⟨_, (HC.out.below hbA (Nat.le_refl _)).base hWwr⟩
            · exact ⟨_, (HD.out.below hbA (Nat.le_refl _)).base (by omega)⟩
            · exact ⟨_, (HM.out.below hbA (Nat.le_refl _)).base (by omega)⟩
            · exact ⟨_, (HN.out.below hbA (Nat.le_refl _)).base (by omega)⟩
            · exact ⟨_, hRo.below hbA (Nat.le_refl _)⟩)
        refine hAp.mono ?_
        rintro e w' ⟨rfl, hbi, hst⟩
        have q0 : ∀ k : Nat, k < w11.heap.size → (∀ t ∈ [(ac, len, cc), (ad, len, cd), (am, len, dm), (an, len, dn), (some ⟨R, 0, none⟩, len, len + 4)], t.1 ≠ some ⟨k, 0, none⟩) → w'.heap[k]? = w11.heap[k]? := fun k hk hn => (hst k (Nat.lt_trans hk hsA) (not_T hn)).trans (hbA.block k hk)
        have q1 : ∀ k : Nat, k < wr.heap.size → k ≠ R → w'.heap[k]? = wr.heap[k]? := fun k hk hkR => by
          refine (q0 k (by omega) fun t ht e => ?_).trans (HQ.out.block k hk)
          simp at ht
          rcases ht with rfl | rfl | rfl | rfl | rfl
          · have := (HC.out.lt e).2.1; omega
          · have := (HD.out.lt e).2.1; omega
          · have := (HM.out.lt e).2.1; omega
          · have := (HN.out.lt e).2.1; omega
          · cases e; exact hkR rfl
        have q2 : ∀ k : Nat, (∃ cur, w11.heap[k]? = some (Obj.cells cur 39 (0, 0))) → w'.heap[k]? = w11.heap[k]? := fun k hk => by
          refine q0 k (by obtain ⟨_, hh⟩ := hk; exact (Array.getElem?_eq_some_iff.1 hh).1) fun t ht => ?_
          simp at ht
          rcases ht with rfl | rfl | rfl | rfl | rfl
          · exact HC.out.no_node hk
          · exact HD.out.no_node hk
          · exact HM.out.no_node hk
          · exact HN.out.no_node hk
          · exact hRo.no_node hk
        have q3 : w11.heap.size ≤ w'.heap.size := Nat.le_trans (Nat.le_of_lt hsA) hbi.size
        refine ⟨rfl, ⟨⟨S', s', htm.kept (fun k hk => q1 k (htm.lt k hk) (hS' k hk).2) (fun _ h => h) (fun k hk => Nat.lt_of_lt_of_le (htm.lt k hk) (Nat.le_trans HQ.out.size q3)), hts, fun k hk => (hS' k hk).1⟩, ?_⟩, ?_, ?_⟩
        · exact (HJ11.out.bl.trans (hbA.mono HJ11.out.bl.size)).trans hbi
        · simp only [World.cell?, q2 gm HG.out.1]
          exact hcm
        · simp only [World.cell?, q2 gn HG.out.2]
          exact hcn
      have J : (w11.drew).cell? ⟨gm, 11, none⟩ = some (.slice am len dm) ∧ (w11.drew).cell? ⟨gn, 11, none⟩ = some (.slice an len dn) := ⟨hcm, hcn⟩
      have J1 : Hid (∀ o, (w11.alloc o).drew.cell? ⟨gm, 11, none⟩ = some (.slice am len dm) ∧ (w11.alloc o).drew.cell? ⟨gn, 11, none⟩ = some (.slice an len dn)) := fun o =>
        ⟨((Below.refl w11.heap.size w11).alloc (Nat.le_refl _) o |>.cell (p := ⟨gm, 11, none⟩) (cell_block_lt hcm)).trans hcm, ((Below.refl w11.heap.size w11).alloc (Nat.le_refl _) o |>.cell (p := ⟨gn, 11, none⟩) (cell_block_lt hcn)).trans hcn⟩
      clear Acd Acm Adm Acn Adn Amn HC HD HM HN HJ11 hJ HQ HG
      go_region_held3 (fun v => v.cell? ⟨gm, 11, none⟩ = some (.slice am len dm) ∧ v.cell? ⟨gn, 11, none⟩ = some (.slice an len dn))
        (with_reducible (first | exact unhide J1 _ | exact unhide J2 | exact J))
        ((go_at_call 14; refine (unhide KB).mono ?_; rintro e w12 ⟨rfl, hV, hV2⟩; have HV := hide hV; have J2 := hide hV2; clear hV hV2))
      all_goals
        clear J J1 KB J2 hcm hcn
        go_wp2_with fail
      obtain ⟨⟨S', s', htm, hts, hS'⟩, hbl⟩ := HV.out
      have KL := hide (hts.list htm)
      have hSl := htm.lt
      have hWw12 : W.heap.size ≤ w12.heap.size := hbl.size
      clear HV
      have HT := hide htm
      have HB := hide hbl
      clear htm hbl
      refine (unhide KL).mono ?_
      rintro e w13 ⟨v1, rfl, hE1, hb⟩
      obtain ⟨gl, cl, rfl, hlc, hlW⟩ := ents_one hE1
      have HE := hide hlc
      have HT := hide (HT.out.below hb)
      have HB := hide (HB.out.trans (hb.mono HB.out.size))
      have hs13 : w12.heap.size ≤ w13.heap.size := hb.size
      have KL := hide (hts.list HT.out)
      clear hb hE1
      go_wp2_with fail
      refine (unhide KL).mono ?_
      rintro e w14 ⟨v2, rfl, hE2, hb⟩
      obtain ⟨gk, ck, rfl, hkc, hkW⟩ := ents_one hE2
      obtain ⟨l0, l1, l2, lf⟩ := HE.out
      have l0' := (hb.cell (p := ⟨gl, 0, none⟩) hlW.2).trans l0
      have l1' := (hb.cell (p := ⟨gl, 1, none⟩) hlW.2).trans l1
      have l2' := (hb.cell (p := ⟨gl, 2, none⟩) hlW.2).trans l2
      have lf' : ∀ k, w14.frozen? ⟨gl, k, none⟩ = false := fun k => by
        have h9 := lf k
        simp only [World.frozen?, hb.block gl hlW.2] at h9 ⊢
        exact h9
      have hE2c := hkc
      have hgkl : gk ≠ gl := by have := hkW.1; have := hlW.2; omega
      have HT := hide (HT.out.below hb)
      have HB := hide (HB.out.trans (hb.mono HB.out.size))
      have ko : ∀ j, j ≠ gl → (((w14.setCell ⟨gl, 0, none⟩ (.string ⟨#[]⟩)).setCell ⟨gl, 1, none⟩ (.int .i64 0)).setCell ⟨gl, 2, none⟩ (.int .i64 0)).heap[j]? = w14.heap[j]? := fun j hj =>
        (Below.heap_setCell _ _ _ _ hj).trans ((Below.heap_setCell _ _ _ _ hj).trans (Below.heap_setCell _ _ _ _ hj))
      have hzz : (((w14.setCell ⟨gl, 0, none⟩ (.string ⟨#[]⟩)).setCell ⟨gl, 1, none⟩ (.int .i64 0)).setCell ⟨gl, 2, none⟩ (.int .i64 0)).heap.size = w14.heap.size := by simp [World.setCell]
      have HT2 := hide (HT.out.kept (u' := ((w14.setCell ⟨gl, 0, none⟩ (.string ⟨#[]⟩)).setCell ⟨gl, 1, none⟩ (.int .i64 0)).setCell ⟨gl, 2, none⟩ (.int .i64 0)) (fun j hj => ko j (by have := hSl j hj; have := hlW.1; omega)) (fun _ h => h) (fun j hj => by rw [hzz]; exact HT.out.lt j hj))
      have hWl : W.heap.size ≤ gl := Nat.le_trans hWw12 hlW.1
      have HB2 : Hid (Below W.heap.size W (((w14.setCell ⟨gl, 0, none⟩ (.string ⟨#[]⟩)).setCell ⟨gl, 1, none⟩ (.int .i64 0)).setCell ⟨gl, 2, none⟩ (.int .i64 0))) := ((HB.out.setCell (p := ⟨gl, 0, none⟩) hWl _).setCell (p := ⟨gl, 1, none⟩) hWl _).setCell (p := ⟨gl, 2, none⟩) hWl _
      have HK2 : Hid ((((w14.setCell ⟨gl, 0, none⟩ (.string ⟨#[]⟩)).setCell ⟨gl, 1, none⟩ (.int .i64 0)).setCell ⟨gl, 2, none⟩ (.int .i64 0)).cell? ⟨gk, 0, none⟩ = some (.string ⟨#[97]⟩) ∧ (((w14.setCell ⟨gl, 0, none⟩ (.string ⟨#[]⟩)).setCell ⟨gl, 1, none⟩ (.int .i64 0)).setCell ⟨gl, 2, none⟩ (.int .i64 0)).cell? ⟨gk, 1, none⟩ = some (.int .i64 1) ∧ (((w14.setCell ⟨gl, 0, none⟩ (.string ⟨#[]⟩)).setCell ⟨gl, 1, none⟩ (.int .i64 0)).setCell ⟨gl, 2, none⟩ (.int .i64 0)).cell? ⟨gk, 2, none⟩ = some (.int .i64 2) ∧ gk < (((w14.setCell ⟨gl, 0, none⟩ (.string ⟨#[]⟩)).setCell ⟨gl, 1, none⟩ (.int .i64 0)).setCell ⟨gl, 2, none⟩ (.int .i64 0)).heap.size) := by
        unfold Hid
        rw [hzz]
        simp only [World.cell?, ko gk hgkl]
        exact ⟨hkc.1, hkc.2.1, hkc.2.2.1, hkW.2⟩
      have KRd := hide (hts.read HT2.out (by omega))
      rw [hzl] at KRd
      clear hb hE2 hkc HE l0 l1 l2 lf hE2c ko hzz HT HT2 HB hSl KL hlW hkW hgkl hs13
      go_wp2_with fail
      generalize ((w14.setCell ⟨gl, 0, none⟩ (.string ⟨#[]⟩)).setCell ⟨gl, 1, none⟩ (.int .i64 0)).setCell ⟨gl, 2, none⟩ (.int .i64 0) = w15 at *
      refine (unhide KRd).mono ?_
      rintro e w16 ⟨ae, ce, rfl, oe, hb⟩
      have k0 := (hb.cell (p := ⟨gk, 0, none⟩) HK2.out.2.2.2).trans HK2.out.1
      have k1 := (hb.cell (p := ⟨gk, 1, none⟩) HK2.out.2.2.2).trans HK2.out.2.1
      have k2 := (hb.cell (p := ⟨gk, 2, none⟩) HK2.out.2.2.2).trans HK2.out.2.2.1
      have HBf := hide (HB2.out.trans (hb.mono HB2.out.size))
      have K3 := hide (same_true ae (some x) len ce cap zs w16 oe.has (HR.out.below HBf.out HBf.out.size).has)
      clear KRd oe hb HK2 HB2
      go_wp2_with fail
      refine (unhide K3).mono ?_
      rintro e w17 ⟨rfl, rfl⟩
      clear K3
      go_wp2_with fail
      go_ret
      exact ⟨rfl, HBf.out⟩

end Go.Proofs.Ytknmgefpjdfenaa

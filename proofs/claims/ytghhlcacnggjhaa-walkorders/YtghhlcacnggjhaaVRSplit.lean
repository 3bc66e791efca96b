/- skerryref16.Split: every text. -/
import Derived.Test.YtghhlcacnggjhaaVSplit
import Derived.Test.YtghhlcacnggjhaaVRName
namespace Go.Proofs.Ytghhlcacnggjhaa
open Go.RowKit Go.Shelf
set_option linter.unusedVariables false
set_option maxRecDepth 100000

theorem flat_segs (t : List UInt8) : flat (segs t) = 47 :: t := by
  induction t with
  | nil => rfl
  | cons b t ih =>
    rw [segs_cons]
    cases hs : segs t with
    | nil => exact absurd hs (segs_ne t)
    | cons x r =>
      rw [hs] at ih
      have ih' : x ++ flat r = t := by
        have : flat (x :: r) = 47 :: (x ++ flat r) := rfl
        rw [this] at ih
        simpa using ih
      by_cases hb : b = 47
      · rw [if_pos hb, hb]
        show 47 :: ([] ++ flat (x :: r)) = _
        rw [ih]
        rfl
      · rw [if_neg hb]
        show 47 :: ((b :: x) ++ flat r) = _
        rw [List.cons_append, ih']

/-- The names of a text that begins with / and goes on. -/
theorem spl_segs {t : List UInt8} (ht : t ≠ []) (hl : t.length + 1 ≤ 200) : spl (47 :: t) = if (segs t).length ≤ 16 ∧ (∀ x ∈ segs t, nmB x = true) then some (segs t) else none := by
  by_cases h : (segs t).length ≤ 16 ∧ (∀ x ∈ segs t, nmB x = true)
  · rw [if_pos h]
    have e : jn (segs t) = 47 :: t := by unfold jn; rw [if_neg (segs_ne t), flat_segs]
    rw [← e]
    refine spl_jn ((okN_iff _).2 ⟨h.1, h.2, ?_⟩)
    rw [e]
    simpa using hl
  · rw [if_neg h]
    cases hs : spl (47 :: t) with
    | none => rfl
    | some ns =>
      exfalso
      obtain ⟨ok, he, _⟩ := spl_some hs
      have ok' := (okN_iff ns).1 ok
      cases ns with
      | nil => unfold jn at he; simp at he; exact ht he
      | cons x r =>
        have e : t = x ++ flat r := by
          unfold jn at he
          rw [if_neg (by simp)] at he
          have : flat (x :: r) = 47 :: (x ++ flat r) := rfl
          rw [this] at he
          simpa using he
        have := segs_names x r (nmB_no (ok'.2.1 x (by simp))) (fun n hn => nmB_no (ok'.2.1 n (by simp [hn])))
        rw [← e] at this
        rw [this] at h
        exact h ⟨ok'.1, ok'.2.1⟩

def segP (cur rest : List UInt8) : List (List UInt8) := (cur ++ (segs rest).head?.getD []) :: (segs rest).tail

theorem segP_start (t : List UInt8) : segs t = segP [] t := by
  unfold segP
  cases hs : segs t with
  | nil => exact absurd hs (segs_ne t)
  | cons x r => rfl

theorem segP_byte (cur rest : List UInt8) (b : UInt8) (hb : b ≠ 47) : segP cur (b :: rest) = segP (cur ++ [b]) rest := by
  unfold segP
  rw [segs_cons, if_neg hb]
  simp

theorem segP_cut (cur rest : List UInt8) : segP cur (47 :: rest) = cur :: segP [] rest := by
  rw [← segP_start]
  unfold segP
  rw [segs_cons, if_pos rfl]
  simp

theorem segP_end (cur : List UInt8) : segP cur [] = [cur] := by
  unfold segP
  simp [segs]

/-- Where the reference's loop stands. -/
def RsI (w : World) (p t : List UInt8) (a : Option Addr) (k c f i : Nat) (wr : World) : Prop :=
  ∃ ds, ds.length = k ∧ OwnS w.heap.size wr a k c ds ∧ Below w.heap.size w wr ∧ k ≤ 16 ∧ (∀ x ∈ ds, nmB x = true) ∧ 1 ≤ f ∧ 1 ≤ i ∧ i ≤ p.length + 1 ∧ f ≤ p.length + 1 ∧
    (i ≤ p.length → f ≤ i ∧ segs t = ds ++ segP ((p.drop f).take (i - f)) (p.drop i)) ∧ (i = p.length + 1 → segs t = ds)

theorem RsI.start (w : World) {p t : List UInt8} (hp : p = 47 :: t) : RsI w p t none 0 0 1 1 w := by
  subst hp
  refine ⟨[], rfl, OwnS.nil _ _, Below.refl _ _, by omega, fun x hx => (by cases hx), by omega, by omega, by simp, by simp, fun _ => ⟨by omega, ?_⟩, fun h => by simp at h⟩
  simp [segP_start t]

theorem St_cut (p : List UInt8) (f i : Nat) (h : f ≤ i) (hi : i ≤ p.length) : (St p).extract f i = St ((p.drop f).take (i - f)) := by
  apply ByteArray.ext
  simp only [St, ByteArray.data_extract, List.extract_toArray]
  try rw [List.extract_eq_drop_take']

theorem RsI.skip {w : World} {p t : List UInt8} {a : Option Addr} {k c f i : Nat} {wr : World} (h : RsI w p t a k c f i wr) (hi : i < p.length) (hb : p[i] ≠ 47) : RsI w p t a k c f (i + 1) wr := by
  obtain ⟨ds, h1, h2, h3, h4, h5, h6, h7, h8, h9, h10, h11⟩ := h
  obtain ⟨hf, he⟩ := h10 (by omega)
  refine ⟨ds, h1, h2, h3, h4, h5, h6, by omega, by omega, h9, fun _ => ⟨by omega, ?_⟩, fun e => by omega⟩
  rw [he, List.drop_eq_getElem_cons hi, segP_byte _ _ _ hb]
  congr 2
  rw [show i + 1 - f = (i - f) + 1 by omega, List.take_add_one, List.getElem?_drop, show f + (i - f) = i by omega, List.getElem?_eq_getElem hi]
  rfl

/-- A part is at its end: what the names are if it is one, and that there are none if it isn't. -/
theorem RsI.part {w : World} {p t : List UInt8} {a : Option Addr} {k c f i : Nat} {wr : World} (h : RsI w p t a k c f i wr) (hi : i ≤ p.length) (hb : i = p.length ∨ ∃ h : i < p.length, p[i] = 47) :
    f ≤ i ∧ (nmB ((p.drop f).take (i - f)) = false ∨ k = 16 → ¬ ((segs t).length ≤ 16 ∧ ∀ x ∈ segs t, nmB x = true)) ∧
    (nmB ((p.drop f).take (i - f)) = true → k < 16 → ∃ a' c' w', (∀ ty, (Builtin.append_ #[22, 22] ty #[.slice a k c, .slice (some ⟨wr.heap.size, 0, none⟩) 1 1]).run Try.prog (wr.alloc (.cells #[.string (St ((p.drop f).take (i - f)))] 9)) = .ok (.slice a' (k + 1) c') w') ∧ RsI w p t a' (k + 1) c' (i + 1) (i + 1) w') := by
  obtain ⟨ds, h1, h2, h3, h4, h5, h6, h7, h8, h9, h10, h11⟩ := h
  obtain ⟨hf, he⟩ := h10 hi
  have he2 : ∃ more, segs t = ds ++ (p.drop f).take (i - f) :: more ∧ (i < p.length → more = segP [] (p.drop (i + 1))) ∧ (i = p.length → more = []) := by
    rcases hb with hb | ⟨hb, h47⟩
    · refine ⟨[], ?_, fun h => by omega, fun _ => rfl⟩
      rw [he]
      conv => lhs; rw [hb, List.drop_length, segP_end]
      rw [hb]
    · refine ⟨segP [] (p.drop (i + 1)), ?_, fun _ => rfl, fun h => by omega⟩
      rw [he, List.drop_eq_getElem_cons hb, h47, segP_cut]
  obtain ⟨more, he2, hm1, hm2⟩ := he2
  refine ⟨hf, fun h => ?_, fun hn hk => ?_⟩
  · rintro ⟨hc1, hc2⟩
    rw [he2] at hc1 hc2
    rcases h with h | h
    · rw [hc2 _ (by simp)] at h; cases h
    · simp at hc1; omega
  · obtain ⟨a', c', w', r, o, _, b⟩ := app1S h2 h3.size ((p.drop f).take (i - f)) (by omega)
    refine ⟨a', c', w', r, ds ++ [(p.drop f).take (i - f)], by simp [h1], o, h3.trans b, by omega, fun x hx => ?_, by omega, by omega, by omega, by omega, fun hle => ⟨by omega, ?_⟩, fun e => ?_⟩
    · rw [List.mem_append, List.mem_singleton] at hx
      rcases hx with hx | hx
      · exact h5 x hx
      · rw [hx]; exact hn
    · rw [he2, hm1 (by omega)]
      simp
    · rw [he2, hm2 (by omega)]

theorem spl_bad {p : List UInt8} (h : p.length < 1 ∨ 200 < p.length ∨ ∃ h : 0 < p.length, p[0] ≠ 47) : spl p = none := by
  cases hs : spl p with
  | none => rfl
  | some ns =>
    exfalso
    have hl := spl_len hs
    obtain ⟨_, he, _⟩ := spl_some hs
    have hj : ∃ t, jn ns = 47 :: t := by
      cases ns with
      | nil => exact ⟨[], rfl⟩
      | cons x r => exact ⟨x ++ flat r, by unfold jn; rw [if_neg (by simp)]; rfl⟩
    obtain ⟨t, ht⟩ := hj
    rw [ht] at he
    subst he
    rcases h with h | h | ⟨h0, h1⟩
    · simp at h
    · omega
    · exact h1 rfl

theorem St_byte (p : List UInt8) (i : Nat) (h : i < (St p).size) : (St p)[i] = p[i]'(by rw [St_size] at h; exact h) := by
  show (St p).data[i] = _
  simp [St]

set_option maxHeartbeats 1000000 in
theorem rsplit_bad {p : List UInt8} (w : World) (hp : p.length ≤ 9223372036854775807) (h : p.length < 1 ∨ 200 < p.length ∨ ∃ h : 0 < p.length, p[0] ≠ 47) :
    Calls Try.prog 10 #[.string (St p)] w fun e w' => e = .returned (.tuple #[.slice none 0 0, .int .i64 16]) ∧ Below w.heap.size w w' := by
  have hs := St_size p
  by_cases h1 : p.length < 1
  · have d1 : decide (((St p).size : Int) < 1) = true := by rw [hs]; simp; omega
    generalize St p = s at *
    clear h hs h1 hp
    go_enter Try.func10, Try.ntmps10
    go_wp2_with fail
    go_ret2
    exact ⟨rfl, Below.refl _ _⟩
  · have d1 : decide (((St p).size : Int) < 1) = false := by rw [hs]; simp; omega
    by_cases h2 : 200 < p.length
    · have d2 : decide (((St p).size : Int) > 200) = true := by rw [hs]; simp; omega
      generalize St p = s at *
      clear h hs h1 hp h2
      go_enter Try.func10, Try.ntmps10
      go_wp2_with fail
      go_ret2
      exact ⟨rfl, Below.refl _ _⟩
    · have d2 : decide (((St p).size : Int) > 200) = false := by rw [hs]; simp; omega
      obtain ⟨h0, h3⟩ : ∃ h : 0 < p.length, p[0] ≠ 47 := by
        rcases h with h | h | h
        · exact absurd h h1
        · exact absurd h h2
        · exact h
      have hz : 0 < (St p).size := by rw [hs]; exact h0
      have hb : (((St p)[0]'hz).toNat : Int) ≠ 47 := by
        rw [St_byte p 0 hz]
        intro e
        apply h3
        apply UInt8.toNat_inj.1
        have : p[0].toNat = 47 := by omega
        exact this
      clear h hs h1 hp h2 h3 h0
      generalize St p = s at *
      have d3 : (((s[0]'hz).toNat : Int) == 47) = false := by simpa using hb
      go_enter Try.func10, Try.ntmps10
      go_wp2_with fail
      go_ret2
      exact ⟨rfl, Below.refl _ _⟩

theorem byte_47 {p : List UInt8} {i : Nat} (h : i < (St p).size) : ((((St p)[i]'h).toNat : Int) == 47) = decide (p[i]'(by rw [St_size] at h; exact h) = 47) := by
  rw [St_byte p i h]
  by_cases e : p[i]'(by rw [St_size] at h; exact h) = 47
  · rw [e]; rfl
  · rw [decide_eq_false e, beq_eq_false_iff_ne]
    intro e2
    apply e
    apply UInt8.toNat_inj.1
    have : (p[i]'(by rw [St_size] at h; exact h)).toNat = 47 := by omega
    exact this

set_option maxHeartbeats 4000000 in
theorem rsplit_any (p : List UInt8) (w : World) (hp : p.length ≤ 9223372036854775807) :
    Calls Try.prog 10 #[.string (St p)] w fun e w' => ∃ a c, e = .returned (.tuple #[.slice a ((spl p).getD []).length c, .int .i64 (splE p)]) ∧ OwnS w.heap.size w' a ((spl p).getD []).length c ((spl p).getD []) ∧ Below w.heap.size w w' := by
  by_cases hbad : p.length < 1 ∨ 200 < p.length ∨ ∃ h : 0 < p.length, p[0] ≠ 47
  · refine (rsplit_bad w hp hbad).mono ?_
    rintro e w' ⟨rfl, hb⟩
    have hn := spl_bad hbad
    unfold splE
    rw [hn]
    exact ⟨none, 0, rfl, OwnS.nil _ _, hb⟩
  · have h200 : p.length ≤ 200 := Classical.byContradiction fun h => hbad (.inr (.inl (by omega)))
    obtain ⟨t, rfl⟩ : ∃ t, p = 47 :: t := by
      cases p with
      | nil => exact absurd (.inl (by simp)) hbad
      | cons b t =>
        refine ⟨t, ?_⟩
        have : b = 47 := Classical.byContradiction fun h => hbad (.inr (.inr ⟨by simp, h⟩))
        rw [this]
    clear hbad hp
    have hs := St_size (47 :: t)
    have d1 : decide (((St (47 :: t)).size : Int) < 1) = false := by rw [hs]; simp; omega
    have d2 : decide (((St (47 :: t)).size : Int) > 200) = false := by rw [hs]; simp; simp at h200; omega
    have hz : 0 < (St (47 :: t)).size := by rw [hs]; simp
    have d3 : ((((St (47 :: t))[0]'hz).toNat : Int) == 47) = true := by rw [byte_47 hz]; rfl
    by_cases ht : t = []
    · subst ht
      have hr : spl [47] = some [] := spl_jn (ns := []) (by rw [okN_iff]; exact ⟨by decide, fun n hn => (by cases hn), by decide⟩)
      unfold splE
      rw [hr]
      show Calls _ _ _ _ fun e w' => ∃ a c, e = .returned (.tuple #[.slice a 0 c, .int .i64 0]) ∧ OwnS w.heap.size w' a 0 c [] ∧ _
      have d4 : ((St [47]).toList == [47]) = true := by rw [St_toList]; rfl
      generalize St [47] = s at *
      clear hr hs
      go_enter Try.func10, Try.ntmps10
      go_wp2_with fail
      go_ret2
      exact ⟨none, 0, rfl, OwnS.nil _ _, Below.refl _ _⟩
    · have hspl := hide (spl_segs ht (by simpa using h200))
      have d4 : ((St (47 :: t)).toList == [47]) = false := by rw [St_toList]; simpa using ht
      have HI := hide (RsI.start w (rfl : (47 :: t) = 47 :: t))
      have HC : Hid (∀ f i : Nat, f ≤ i → i ≤ (47 :: t).length → (St (47 :: t)).extract f i = St (((47 :: t).drop f).take (i - f))) := fun f i h1 h2 => St_cut _ f i h1 h2
      have H47 : Hid (∀ (i : Nat) (h : i < (St (47 :: t)).size) (h' : i < (47 :: t).length), ((((St (47 :: t))[i]'h).toNat : Int) == 47) = decide ((47 :: t)[i]'h' = 47)) := fun i h _ => byte_47 h
      have HNm : Hid (∀ f i u, Calls Try.prog 22 #[.string (St (((47 :: t).drop f).take (i - f)))] u fun e w' => e = .returned (.int .i64 (nameE (St (((47 :: t).drop f).take (i - f))))) ∧ u = w') := fun f i u => refName_any _ u (by rw [St_size]; simp; simp at h200; omega)
      generalize hS : St (47 :: t) = s at *
      generalize hP : 47 :: t = p at *
      rw [← hs] at h200
      have HSz := hide hs
      have HPt := hide hP
      clear hs hP hS
      go_enter Try.func10, Try.ntmps10
      go_wp2_with fail
      have dz : (((s[0]'hz).toNat : Int) != 47) = false := by rw [bne, d3]; rfl
      rw [dz]
      clear d1 d2 d3 d4 dz
      go_loopw [4, 5, 6] (fun l fv iv wr => ∃ a k c f i, l = .slice a k c ∧ fv = .int .i64 ((f : Nat) : Int) ∧ iv = .int .i64 ((i : Nat) : Int) ∧ Hid (RsI w p t a k c f i wr)) (fun _ _ iv _ => p.length + 1 - (intOf iv).toNat)
      case atStart => exact ⟨none, 0, 0, 1, 1, rfl, rfl, rfl, HI⟩
      case round =>
        clear HI
        obtain ⟨a, k, c, f, i, rfl, rfl, rfl, hI⟩ := hrel
        obtain ⟨hi1, hi2, hf2, hk, hs16, hBl⟩ : 1 ≤ i ∧ i ≤ p.length + 1 ∧ f ≤ p.length + 1 ∧ k ≤ 16 ∧ 1 ≤ f ∧ Below w.heap.size w wr := by
          obtain ⟨ds, h1, h2, h3, h4, h5, h6, h7, h8, h9, h10, h11⟩ := hI.out
          exact ⟨h7, h8, h9, h4, h6, h3⟩
        have hs := HSz.out
        by_cases hle : i ≤ p.length
        · have hle' : (i : Int) ≤ (s.size : Int) := by omega
          by_cases hend : i = p.length ∨ ∃ h : i < p.length, p[i] = 47
          · obtain ⟨hfi, hno, hyes⟩ := hI.out.part hle hend
            have hcut := HC.out f i hfi hle
            have KN := HNm.out f i wr
            unfold nameE at KN
            have en : nameB (St ((p.drop f).take (i - f))) = nmB ((p.drop f).take (i - f)) := rfl
            rw [en] at KN
            have c1 : (0 : Int) ≤ (f : Int) := by omega
            have c2 : (f : Int) ≤ (i : Int) := by omega
            have c3 : (0 : Int) ≤ (i : Int) := by omega
            have dd : (((i : Int) == (s.size : Int)) = true) ∨ (((i : Int) == (s.size : Int)) = false ∧ ∃ h : i < s.size, (((s[i]'h).toNat : Int) == 47) = true) := by
              rcases hend with h | ⟨h, h47⟩
              · left; simp; omega
              · right
                refine ⟨by simp; omega, by omega, ?_⟩
                rw [H47.out i (by omega) h]; simpa using h47
            by_cases hn : nmB ((p.drop f).take (i - f)) = true
            · rw [if_pos hn] at KN
              by_cases hk16 : k = 16
              · have HF : Hid (spl p = none) := by rw [hspl.out]; exact if_neg (hno (.inr hk16))
                have HB := hide hBl
                clear hyes hno hI hend HC H47 hspl hBl hs en HNm
                generalize St ((p.drop f).take (i - f)) = sc at *
                subst hk16
                have KN := hide KN
                rcases dd with dd | ⟨dd, hlt2, dd2⟩
                · go_wp2_with fail
                  refine (unhide KN).mono ?_
                  rintro e w1 ⟨rfl, rfl⟩
                  go_wp2_with fail
                  go_ret2
                  refine ⟨none, 0, ?_, ?_, HB.out⟩
                  · unfold splE; rw [HF.out]; rfl
                  · rw [HF.out]; exact OwnS.nil _ _
                · go_wp2_with fail
                  refine (unhide KN).mono ?_
                  rintro e w1 ⟨rfl, rfl⟩
                  go_wp2_with fail
                  go_ret2
                  refine ⟨none, 0, ?_, ?_, HB.out⟩
                  · unfold splE; rw [HF.out]; rfl
                  · rw [HF.out]; exact OwnS.nil _ _
              · obtain ⟨a', c', w', R1, hN⟩ := hyes hn (by omega)
                have HN := hide hN
                have R1 := hide R1
                have d7 : ((k : Int) == 16) = false := by simp; omega
                clear hyes hno hI hend HC H47 hspl hBl hs en HNm hN hn
                generalize St ((p.drop f).take (i - f)) = sc at *
                have KN := hide KN
                rcases dd with dd | ⟨dd, hlt2, dd2⟩
                · go_wp2_with fail
                  refine (unhide KN).mono ?_
                  rintro e w1 ⟨rfl, rfl⟩
                  clear KN
                  go_wp2_with (at_builtin; refine wpList_append_run 22 rfl _ _ rfl _ _ _ rfl rfl (unhide R1) ?_; clear R1)
                  go_roundw
                  case rel => exact ⟨a', k + 1, c', i + 1, i + 1, rfl, by go_num, by go_num, HN⟩
                  case measure => simp [intOf]; omega
                · go_wp2_with fail
                  refine (unhide KN).mono ?_
                  rintro e w1 ⟨rfl, rfl⟩
                  clear KN
                  go_wp2_with (at_builtin; refine wpList_append_run 22 rfl _ _ rfl _ _ _ rfl rfl (unhide R1) ?_; clear R1)
                  go_roundw
                  case rel => exact ⟨a', k + 1, c', i + 1, i + 1, rfl, by go_num, by go_num, HN⟩
                  case measure => simp [intOf]; omega
            · rw [if_neg hn] at KN
              have HF : Hid (spl p = none) := by rw [hspl.out]; exact if_neg (hno (.inl (by simpa using hn)))
              have HB := hide hBl
              clear hyes hno hI hend HC H47 hspl hBl hs en HNm
              generalize St ((p.drop f).take (i - f)) = sc at *
              clear hn
              have KN := hide KN
              rcases dd with dd | ⟨dd, hlt2, dd2⟩
              · go_wp2_with fail
                refine (unhide KN).mono ?_
                rintro e w1 ⟨rfl, rfl⟩
                go_wp2_with fail
                go_ret2
                refine ⟨none, 0, ?_, ?_, HB.out⟩
                · unfold splE; rw [HF.out]; rfl
                · rw [HF.out]; exact OwnS.nil _ _
              · go_wp2_with fail
                refine (unhide KN).mono ?_
                rintro e w1 ⟨rfl, rfl⟩
                go_wp2_with fail
                go_ret2
                refine ⟨none, 0, ?_, ?_, HB.out⟩
                · unfold splE; rw [HF.out]; rfl
                · rw [HF.out]; exact OwnS.nil _ _
          · have hlt : i < p.length := Classical.byContradiction fun h => hend (.inl (by omega))
            have hb : p[i] ≠ 47 := fun h => hend (.inr ⟨hlt, h⟩)
            have hlt2 : i < s.size := by omega
            have d5 : ((i : Int) == (s.size : Int)) = false := by simp; omega
            have d6 : (((s[i]'hlt2).toNat : Int) == 47) = false := by rw [H47.out i hlt2 hlt]; simpa using hb
            have HN := hide (hI.out.skip hlt hb)
            clear hI hend hb HC H47 HNm hspl hBl hs
            go_wp2_with fail
            go_roundw
            case rel => exact ⟨a, k, c, f, i + 1, rfl, rfl, by go_num, HN⟩
            case measure => simp [intOf]; omega
        · have HE : Hid (OwnS w.heap.size wr a k c (segs t) ∧ spl p = some (segs t) ∧ (segs t).length = k) := by
            obtain ⟨ds, h1, h2, h3, h4, h5, h6, h7, h8, h9, h10, h11⟩ := hI.out
            have e := h11 (by omega)
            refine ⟨by rw [e]; exact h2, ?_, by rw [e]; exact h1⟩
            rw [hspl.out, if_pos]
            rw [e]
            exact ⟨by omega, h5⟩
          have HB := hide hBl
          have hgt : ¬ (i : Int) ≤ (s.size : Int) := by omega
          clear hI HC H47 HNm hspl hBl hs
          go_wp2_with fail
          go_ret2
          obtain ⟨h1, h2, h3⟩ := HE.out
          refine ⟨a, c, ?_, ?_, HB.out⟩
          · unfold splE; rw [h2]; exact congrArg (fun m => Ending.returned (.tuple #[.slice a m c, .int .i64 0])) h3.symm
          · rw [h2]; show OwnS _ _ _ (segs t).length _ (segs t); rw [h3]; exact h1

end Go.Proofs.Ytghhlcacnggjhaa

/- Calls keep a tree sound. -/
import Derived.Test.YtknmgefpjdfenaaGreatTnJ47
namespace Go.Proofs.YtknmgefpjdfenaaGreat
open Go.RowKit Go.Shelf Go.Maps
set_option linter.unusedVariables false
set_option maxRecDepth 100000

theorem names_edit {s s' : Tr} (V : NS → Nat) {d i : Nat} (hrow : s'.row = s.row) (hi : s.row[i]? = some (some d)) (hone : ∀ j, s.row[j]? = some (some d) → j = i) (hns : ∀ k, k ≠ d → s'.nsOf k = s.nsOf k) :
    sumR (fun k => V (s'.nsOf k)) s'.row + V (s.nsOf d) = sumR (fun k => V (s.nsOf k)) s.row + V (s'.nsOf d) := by
  rw [hrow]
  exact sumR_upd (F := fun k => V (s.nsOf k)) (G := fun k => V (s'.nsOf k)) hi hone (fun b hb => by rw [hns b hb])

/-- A tree of the same shape. -/
theorem Wf.like {s s' : Tr} {r n : Nat} (h : Wf s r n) (hrow : s'.row = s.row) (hm : s'.most = s.most) (hl : s'.least = s.least)
    (hT : ∀ b t', s'.T b = some t' → ∃ t, s.T b = some t ∧ t'.k = t.k ∧ t'.n = t.n ∧ t'.l = t.l ∧ t'.ns = t.ns ∧ (t'.k = 2 → t'.d = t.d) ∧ (t'.d.length : Int) ≤ s.most)
    (hT2 : ∀ b t, s.T b = some t → ∃ t', s'.T b = some t' ∧ t'.k = t.k ∧ t'.n = t.n ∧ t'.ns = t.ns) (ho : ∀ f b, s'.opn f = some b → ∃ t, s'.T b = some t ∧ t.k = 1) : Wf s' r n := by
  have hns : ∀ k, s'.nsOf k = s.nsOf k := fun k => by
    cases h1 : s.T k with
    | none =>
      cases h2 : s'.T k with
      | none => rw [nsOf_none h1, nsOf_none h2]
      | some t' =>
        obtain ⟨t, ht, _⟩ := hT k t' h2
        rw [h1] at ht
        cases ht
    | some t =>
      obtain ⟨t', ht', _, _, hn⟩ := hT2 k t h1
      rw [nsOf_some h1, nsOf_some ht', hn]
  have hc : ∀ b, s'.cnt b = s.cnt b := fun b => by unfold Tr.cnt; rw [hrow]; simp only [hns]
  have ha : s'.all = s.all := by unfold Tr.all; rw [hrow]; simp only [hns]
  obtain ⟨rk, hrk⟩ := h.rk
  refine ⟨⟨by rw [hrow]; exact h.ok.root, ?_, ?_, ?_⟩, ⟨rk, ?_⟩, ?_, ?_, ?_, ?_, ?_, by rw [hc]; exact h.top, ?_, ?_, ho, ?_, by rw [hm]; exact h.mst, by rw [ha]; exact h.few, by rw [hrow]; exact h.len, by rw [hrow, hl]; exact h.lst⟩
  · obtain ⟨t, ht, hk⟩ := h.ok.dir
    obtain ⟨t', ht', hk', _⟩ := hT2 r t ht
    exact ⟨t', ht', hk'.trans hk⟩
  · intro b t' e
    obtain ⟨t, ht, hk, _⟩ := hT b t' e
    rw [hk]
    exact h.ok.kind b t ht
  · intro b t' y c e hy
    obtain ⟨t, ht, _, _, _, hn, _⟩ := hT b t' e
    rw [hn] at hy
    obtain ⟨u, hu⟩ := h.ok.live b t y c ht hy
    obtain ⟨u', hu', _⟩ := hT2 c u hu
    exact ⟨u', hu'⟩
  · intro b t' e a he
    obtain ⟨t, ht, _, _, _, hn, _⟩ := hT b t' e
    rw [hn] at he
    exact hrk b t ht a he
  · intro b t' e a he
    obtain ⟨t, ht, _, _, _, hn, _⟩ := hT b t' e
    rw [hn] at he
    obtain ⟨⟨u, hu⟩, hl⟩ := h.liv b t ht a he
    obtain ⟨u', hu', _⟩ := hT2 _ u hu
    exact ⟨⟨u', hu'⟩, hl⟩
  · intro b t' e
    obtain ⟨t, ht, _, _, _, hn, _⟩ := hT b t' e
    rw [hn]
    exact h.ris b t ht
  · intro b t' e
    obtain ⟨t, ht, _, hn, _⟩ := hT b t' e
    rw [hn, hrow]
    exact h.num b t ht
  · intro i b e
    rw [hrow] at e
    obtain ⟨t, ht, hn⟩ := h.row i b e
    obtain ⟨t', ht', _, hn', _⟩ := hT2 b t ht
    exact ⟨t', ht', hn'.trans hn⟩
  · intro b t' e hne
    obtain ⟨t, ht, _, _, hl, _⟩ := hT b t' e
    rw [hc, hl]
    exact h.lnk b t ht hne
  · intro b t' e hk
    obtain ⟨t, ht, hk', _, _, _, hd, _⟩ := hT b t' e
    rw [hc, hd hk]
    exact h.dir b t ht (by rw [← hk']; exact hk)
  · intro b t' e hk
    obtain ⟨t, ht, hk', _, _, hn, _⟩ := hT b t' e
    rw [hn]
    exact h.fil b t ht (by rw [← hk']; exact hk)
  · intro b t' e
    obtain ⟨t, ht, _, _, _, _, _, hs⟩ := hT b t' e
    rw [hm]
    exact hs

theorem Wf.opened {s : Tr} {r n : Nat} (h : Wf s r n) (f : Nat) {o : Option Nat} (ho : ∀ b, o = some b → ∃ t, s.T b = some t ∧ t.k = 1) : Wf (s.opened f o) r n :=
  h.like rfl rfl rfl (fun b t e => ⟨t, e, rfl, rfl, rfl, rfl, fun _ => rfl, h.siz b t e⟩) (fun b t e => ⟨t, e, rfl, rfl, rfl⟩) (fun i b e => by
    have e' : (if i = f then o else s.opn i) = some b := e
    by_cases hi : i = f
    · rw [if_pos hi] at e'; exact ho b e'
    · rw [if_neg hi] at e'; exact h.opn i b e')

theorem Wf.data {s : Tr} {r n b : Nat} {t : Th} (h : Wf s r n) (ht : s.T b = some t) (hk : t.k = 1) {d : List Int} (hd : (d.length : Int) ≤ s.most) (da : Option Addr) (dc : Nat) : Wf (s.upd b { t with d := d, da := da, dc := dc }) r n := by
  have key : ∀ c t', (s.upd b { t with d := d, da := da, dc := dc }).T c = some t' → (c = b ∧ t' = { t with d := d, da := da, dc := dc }) ∨ (c ≠ b ∧ s.T c = some t') := fun c t' e => by
    rw [Tr.upd_T] at e
    by_cases hc : c = b
    · rw [if_pos hc] at e; cases e; exact .inl ⟨hc, rfl⟩
    · rw [if_neg hc] at e; exact .inr ⟨hc, e⟩
  have back : ∀ c u, s.T c = some u → ∃ t', (s.upd b { t with d := d, da := da, dc := dc }).T c = some t' ∧ t'.k = u.k ∧ t'.n = u.n ∧ t'.ns = u.ns := fun c u e => by
    rw [Tr.upd_T]
    by_cases hc : c = b
    · rw [if_pos hc]
      subst hc
      rw [ht] at e
      cases e
      exact ⟨_, rfl, rfl, rfl, rfl⟩
    · rw [if_neg hc]; exact ⟨u, e, rfl, rfl, rfl⟩
  refine h.like rfl rfl rfl (fun c t' e => ?_) back (fun f c e => ?_)
  · rcases key c t' e with ⟨rfl, rfl⟩ | ⟨_, e'⟩
    · exact ⟨t, ht, rfl, rfl, rfl, rfl, fun q => by have q' : t.k = 2 := q; omega, hd⟩
    · exact ⟨t', e', rfl, rfl, rfl, rfl, fun _ => rfl, h.siz c t' e'⟩
  · obtain ⟨u, hu, huk⟩ := h.opn f c e
    obtain ⟨t', ht', hk', _⟩ := back c u hu
    exact ⟨t', ht', hk'.trans huk⟩

theorem Wf.linked {s : Tr} {r n d x : Nat} {t tx : Th} {z : List UInt8} (h : Wf s r n) (ht : s.T d = some t) (h2 : t.k = 2) (hz : z.length ≤ 200) (hc : t.ns.lookup z = none) (hx : s.T x = some tx) (hk : tx.k = 1) : Wf (s.linked d t z x tx) r (n + 1) := by
  have hdx : d ≠ x := fun e => by subst e; rw [ht] at hx; cases hx; omega
  have hxr : x ≠ r := fun e => by subst e; obtain ⟨tr, htr, hkr, _⟩ := h.root; rw [hx] at htr; cases htr; omega
  have hT : ∀ k, (s.linked d t z x tx).T k = if k = d then some { t with ns := putN z x t.ns } else if k = x then some { tx with l := tx.l + 1 } else s.T k := fun k => rfl
  have hTd : (s.linked d t z x tx).T d = some { t with ns := putN z x t.ns } := by rw [hT, if_pos rfl]
  have hTx : (s.linked d t z x tx).T x = some { tx with l := tx.l + 1 } := by rw [hT, if_neg (fun e => hdx e.symm), if_pos rfl]
  have hTo : ∀ k, k ≠ d → k ≠ x → (s.linked d t z x tx).T k = s.T k := fun k h1 h2 => by rw [hT, if_neg h1, if_neg h2]
  have cases' : ∀ b t', (s.linked d t z x tx).T b = some t' → (b = d ∧ t' = { t with ns := putN z x t.ns }) ∨ (b = x ∧ t' = { tx with l := tx.l + 1 }) ∨ (b ≠ d ∧ b ≠ x ∧ s.T b = some t') := fun b t' e => by
    by_cases h1 : b = d
    · subst h1; rw [hTd] at e; cases e; exact .inl ⟨rfl, rfl⟩
    · by_cases h3 : b = x
      · subst h3; rw [hTx] at e; cases e; exact .inr (.inl ⟨rfl, rfl⟩)
      · rw [hTo b h1 h3] at e; exact .inr (.inr ⟨h1, h3, e⟩)
  have live : ∀ c u, s.T c = some u → ∃ u', (s.linked d t z x tx).T c = some u' ∧ u'.k = u.k ∧ u'.n = u.n := fun c u e => by
    by_cases h1 : c = d
    · subst h1; rw [ht] at e; cases e; exact ⟨_, hTd, rfl, rfl⟩
    · by_cases h3 : c = x
      · subst h3; rw [hx] at e; cases e; exact ⟨_, hTx, rfl, rfl⟩
      · exact ⟨u, by rw [hTo c h1 h3]; exact e, rfl, rfl⟩
  have hns : ∀ k, k ≠ d → (s.linked d t z x tx).nsOf k = s.nsOf k := fun k hkd => by
    by_cases h3 : k = x
    · subst h3; rw [nsOf_some hTx, nsOf_some hx]
    · unfold Tr.nsOf; rw [hTo k hkd h3]
  have hnd : (s.linked d t z x tx).nsOf d = putN z x t.ns := nsOf_some hTd
  have hcnt : ∀ y, (s.linked d t z x tx).cnt y = s.cnt y + (if x = y then 1 else 0) := fun y => by
    have := names_edit (s := s) (s' := s.linked d t z x tx) (fun ns => nmc ns y) rfl (h.num d t ht) (fun j hj => h.once hj (h.num d t ht)) hns
    rw [hnd, nsOf_some ht, nmc_put x y hc] at this
    unfold Tr.cnt
    omega
  have hall : (s.linked d t z x tx).all = s.all + 1 := by
    have := names_edit (s := s) (s' := s.linked d t z x tx) (fun ns => ns.length) rfl (h.num d t ht) (fun j hj => h.once hj (h.num d t ht)) hns
    rw [hnd, nsOf_some ht, len_put x hc] at this
    unfold Tr.all
    omega
  have hmem : ∀ b t', (s.linked d t z x tx).T b = some t' → ∀ e ∈ t'.ns, (b = d ∧ e = (z, x)) ∨ ∃ u, s.T b = some u ∧ e ∈ u.ns := fun b t' e a he => by
    rcases cases' b t' e with ⟨rfl, rfl⟩ | ⟨rfl, rfl⟩ | ⟨_, _, e'⟩
    · rcases mem_put he with q | q
      · exact .inl ⟨rfl, q⟩
      · exact .inr ⟨t, ht, q⟩
    · exact .inr ⟨tx, hx, he⟩
    · exact .inr ⟨t', e', he⟩
  obtain ⟨rk, hrk⟩ := h.rk
  refine ⟨⟨h.ok.root, ?_, ?_, ?_⟩, ⟨fun b => if b = x then 0 else rk b + 1, ?_⟩, ?_, ?_, ?_, ?_, ?_, ?_, ?_, ?_, ?_, ?_, h.mst, ?_, ?_, h.lst⟩
  · obtain ⟨tr, htr, hkr⟩ := h.ok.dir
    obtain ⟨u, hu, hk', _⟩ := live r tr htr
    exact ⟨u, hu, hk'.trans hkr⟩
  · intro b t' e
    rcases cases' b t' e with ⟨rfl, rfl⟩ | ⟨rfl, rfl⟩ | ⟨_, _, e'⟩
    · exact .inr h2
    · exact .inl hk
    · exact h.ok.kind b t' e'
  · intro b t' y c e hy
    rcases hmem b t' e _ (mem_look hy) with ⟨_, q⟩ | ⟨u, hu, q⟩
    · cases q; exact ⟨_, hTx⟩
    · obtain ⟨⟨v, hv⟩, _⟩ := h.liv b u hu _ q
      obtain ⟨v', hv', _⟩ := live _ v hv
      exact ⟨v', hv'⟩
  · intro b t' e a he
    rcases hmem b t' e a he with ⟨rfl, rfl⟩ | ⟨u, hu, q⟩
    · show (if x = x then 0 else _) < (if b = x then 0 else _)
      rw [if_pos rfl, if_neg hdx]; omega
    · have hbx : b ≠ x := fun e' => by
        subst e'
        rw [hx] at hu
        cases hu
        rw [h.fil _ _ hx hk] at q
        cases q
      have := hrk b u hu a q
      show (if a.2 = x then 0 else _) < (if b = x then 0 else _)
      rw [if_neg hbx]
      split <;> omega
  · intro b t' e a he
    rcases hmem b t' e a he with ⟨rfl, rfl⟩ | ⟨u, hu, q⟩
    · exact ⟨⟨_, hTx⟩, hz⟩
    · obtain ⟨⟨v, hv⟩, hl⟩ := h.liv b u hu _ q
      obtain ⟨v', hv', _⟩ := live _ v hv
      exact ⟨⟨v', hv'⟩, hl⟩
  · intro b t' e
    rcases cases' b t' e with ⟨rfl, rfl⟩ | ⟨rfl, rfl⟩ | ⟨_, _, e'⟩
    · exact rise_put z x (h.ris _ t ht)
    · exact h.ris _ tx hx
    · exact h.ris b t' e'
  · intro b t' e
    rcases cases' b t' e with ⟨rfl, rfl⟩ | ⟨rfl, rfl⟩ | ⟨_, _, e'⟩
    · exact h.num _ t ht
    · exact h.num _ tx hx
    · exact h.num b t' e'
  · intro i b e
    obtain ⟨u, hu, hn⟩ := h.row i b e
    obtain ⟨u', hu', _, hn'⟩ := live b u hu
    exact ⟨u', hu', hn'.trans hn⟩
  · intro b t' e hne
    rw [hcnt]
    rcases cases' b t' e with ⟨rfl, rfl⟩ | ⟨rfl, rfl⟩ | ⟨_, h3, e'⟩
    · have := h.lnk _ t ht hne
      rw [if_neg (fun e => hdx e.symm)]
      exact ⟨this.1, this.2⟩
    · have := h.lnk _ tx hx hne
      rw [if_pos rfl]
      refine ⟨?_, by omega⟩
      show tx.l + 1 = _
      omega
    · have := h.lnk b t' e' hne
      rw [if_neg (fun e => h3 e.symm)]
      exact ⟨this.1, this.2⟩
  · rw [hcnt, h.top, if_neg hxr]
  · intro b t' e hk'
    rw [hcnt]
    rcases cases' b t' e with ⟨rfl, rfl⟩ | ⟨rfl, rfl⟩ | ⟨_, h3, e'⟩
    · have := h.dir _ t ht h2
      rw [if_neg (fun e => hdx e.symm)]
      exact this
    · have hk'' : tx.k = 2 := hk'
      omega
    · have := h.dir b t' e' hk'
      rw [if_neg (fun e => h3 e.symm)]
      exact this
  · intro b t' e hk'
    rcases cases' b t' e with ⟨rfl, rfl⟩ | ⟨rfl, rfl⟩ | ⟨_, _, e'⟩
    · have hk'' : t.k = 1 := hk'
      omega
    · exact h.fil _ tx hx hk
    · exact h.fil b t' e' hk'
  · intro f b e
    obtain ⟨u, hu, hku⟩ := h.opn f b e
    obtain ⟨u', hu', hk', _⟩ := live b u hu
    exact ⟨u', hu', hk'.trans hku⟩
  · intro b t' e
    rcases cases' b t' e with ⟨rfl, rfl⟩ | ⟨rfl, rfl⟩ | ⟨_, _, e'⟩
    · exact h.siz _ t ht
    · exact h.siz _ tx hx
    · exact h.siz b t' e'
  · rw [hall]; have := h.few; omega
  · have := h.len
    show s.row.length ≤ _
    omega

theorem pad_at {row : List (Option Nat)} {f : Nat} (hf : row[f]? = none ∨ row[f]? = some none) (b : Nat) (i c : Nat) : ((pad row f).set f (some b))[i]? = some (some c) ↔ (i = f ∧ c = b) ∨ row[i]? = some (some c) := by
  have hlen : f < (pad row f).length := by unfold pad; simp; omega
  have hp : ∀ i, (pad row f)[i]? = some (some c) ↔ row[i]? = some (some c) := fun i => by
    unfold pad
    by_cases h : i < row.length
    · rw [List.getElem?_append_left h]
    · rw [List.getElem?_append_right (by omega), List.getElem?_eq_none (l := row) (by omega)]
      constructor
      · intro q
        have := List.mem_of_getElem? q
        simp at this
      · intro q; cases q
  by_cases hi : f = i
  · subst hi
    rw [List.getElem?_set_self hlen]
    constructor
    · intro q; simp at q; exact .inl ⟨rfl, q.symm⟩
    · rintro (⟨_, rfl⟩ | q)
      · rfl
      · rcases hf with h | h <;> rw [h] at q <;> cases q
  · rw [List.getElem?_set_ne hi, hp]
    constructor
    · exact .inr
    · rintro (⟨e, _⟩ | q)
      · exact absurd e.symm hi
      · exact q

theorem sumR_new {row : List (Option Nat)} {f : Nat} (hf : row[f]? = none ∨ row[f]? = some none) (F : Nat → Nat) (b : Nat) : sumR F ((pad row f).set f (some b)) = sumR F row + F b := by
  have hlen : f < (pad row f).length := by unfold pad; simp; omega
  have ho : (pad row f)[f]? = some none := by
    unfold pad
    by_cases h : f < row.length
    · rw [List.getElem?_append_left h]
      rcases hf with q | q
      · rw [List.getElem?_eq_none_iff] at q; omega
      · exact q
    · rw [List.getElem?_append_right (by omega), List.getElem?_replicate, if_pos (by omega)]
  have := sumR_set F (pad row f) f none (some b) ho
  rw [sumR_pad] at this
  simpa using this

theorem Wf.made {s : Tr} {r n f d b mp : Nat} {k : Int} {t : Th} {z : List UInt8} {ra : Option Addr} {rc : Nat} (h : Wf s r n) (hf : Free s f) (hfl : f ≤ s.row.length) (ht : s.T d = some t) (h2 : t.k = 2) (hz : z.length ≤ 200) (hc : t.ns.lookup z = none) (hb : s.T b = none) (hk : k = 1 ∨ k = 2) :
    Wf (s.made f k d t z b mp ra rc) r (n + 1) := by
  have hdb : d ≠ b := fun e => by subst e; rw [ht] at hb; cases hb
  have hT : ∀ y, (s.made f k d t z b mp ra rc).T y = if y = d then some { t with ns := putN z b t.ns } else if y = b then some { newT k f mp with l := 1 } else s.T y := fun y => rfl
  have hTd : (s.made f k d t z b mp ra rc).T d = some { t with ns := putN z b t.ns } := by rw [hT, if_pos rfl]
  have hTb : (s.made f k d t z b mp ra rc).T b = some { newT k f mp with l := 1 } := by rw [hT, if_neg (fun e => hdb e.symm), if_pos rfl]
  have hTo : ∀ y, y ≠ d → y ≠ b → (s.made f k d t z b mp ra rc).T y = s.T y := fun y h1 h2 => by rw [hT, if_neg h1, if_neg h2]
  have cases' : ∀ y t', (s.made f k d t z b mp ra rc).T y = some t' → (y = d ∧ t' = { t with ns := putN z b t.ns }) ∨ (y = b ∧ t' = { newT k f mp with l := 1 }) ∨ (y ≠ d ∧ y ≠ b ∧ s.T y = some t') := fun y t' e => by
    by_cases h1 : y = d
    · subst h1; rw [hTd] at e; cases e; exact .inl ⟨rfl, rfl⟩
    · by_cases h3 : y = b
      · subst h3; rw [hTb] at e; cases e; exact .inr (.inl ⟨rfl, rfl⟩)
      · rw [hTo y h1 h3] at e; exact .inr (.inr ⟨h1, h3, e⟩)
  have live : ∀ c u, s.T c = some u → ∃ u', (s.made f k d t z b mp ra rc).T c = some u' ∧ u'.k = u.k ∧ u'.n = u.n := fun c u e => by
    by_cases h1 : c = d
    · subst h1; rw [ht] at e; cases e; exact ⟨_, hTd, rfl, rfl⟩
    · by_cases h3 : c = b
      · subst h3; rw [hb] at e; cases e
      · exact ⟨u, by rw [hTo c h1 h3]; exact e, rfl, rfl⟩
  have hns : ∀ y, y ≠ d → (s.made f k d t z b mp ra rc).nsOf y = s.nsOf y := fun y hyd => by
    by_cases h3 : y = b
    · subst h3; rw [nsOf_some hTb, nsOf_none hb]; rfl
    · unfold Tr.nsOf; rw [hTo y hyd h3]
  have hnd : (s.made f k d t z b mp ra rc).nsOf d = putN z b t.ns := nsOf_some hTd
  have hrow : (s.made f k d t z b mp ra rc).row = (pad s.row f).set f (some b) := rfl
  have hsum : ∀ V : NS → Nat, V [] = 0 → sumR (fun y => V ((s.made f k d t z b mp ra rc).nsOf y)) (s.made f k d t z b mp ra rc).row + V t.ns = sumR (fun y => V (s.nsOf y)) s.row + V (putN z b t.ns) := fun V hV => by
    rw [hrow, sumR_new hf.free]
    have h1 : V ((s.made f k d t z b mp ra rc).nsOf b) = 0 := by rw [nsOf_some hTb]; exact hV
    have h3 := sumR_upd (F := fun y => V (s.nsOf y)) (G := fun y => V ((s.made f k d t z b mp ra rc).nsOf y)) (h.num d t ht) (fun j hj => h.once hj (h.num d t ht)) (fun y hy => by rw [hns y hy])
    rw [hnd, nsOf_some ht] at h3
    omega
  have hcnt : ∀ y, (s.made f k d t z b mp ra rc).cnt y = s.cnt y + (if b = y then 1 else 0) := fun y => by
    have := hsum (fun ns => nmc ns y) rfl
    rw [nmc_put b y hc] at this
    unfold Tr.cnt
    omega
  have hall : (s.made f k d t z b mp ra rc).all = s.all + 1 := by
    have := hsum (fun ns => ns.length) rfl
    rw [len_put b hc] at this
    unfold Tr.all
    omega
  have hcb : s.cnt b = 0 := by
    refine sumR_zero _ (fun i c hi => ?_)
    obtain ⟨u, hu, _⟩ := h.row i c hi
    rw [nsOf_some hu]
    by_cases h0 : nmc u.ns b = 0
    · exact h0
    · obtain ⟨e, he, hb'⟩ := nmc_pos h0
      obtain ⟨⟨v, hv⟩, _⟩ := h.liv c u hu e he
      rw [hb', hb] at hv
      cases hv
  have hbr : b ≠ r := fun e => by subst e; obtain ⟨tr, htr, _⟩ := h.root; rw [hb] at htr; cases htr
  have hmem : ∀ y t', (s.made f k d t z b mp ra rc).T y = some t' → ∀ e ∈ t'.ns, (y = d ∧ e = (z, b)) ∨ ∃ u, s.T y = some u ∧ e ∈ u.ns := fun y t' e a he => by
    rcases cases' y t' e with ⟨rfl, rfl⟩ | ⟨rfl, rfl⟩ | ⟨_, _, e'⟩
    · rcases mem_put he with q | q
      · exact .inl ⟨rfl, q⟩
      · exact .inr ⟨t, ht, q⟩
    · cases he
    · exact .inr ⟨t', e', he⟩
  have hget : ∀ i c, (s.made f k d t z b mp ra rc).row[i]? = some (some c) ↔ (i = f ∧ c = b) ∨ s.row[i]? = some (some c) := fun i c => pad_at hf.free b i c
  obtain ⟨rk, hrk⟩ := h.rk
  refine ⟨⟨(hget _ _).2 (.inr h.ok.root), ?_, ?_, ?_⟩, ⟨fun y => if y = b then 0 else rk y + 1, ?_⟩, ?_, ?_, ?_, ?_, ?_, ?_, ?_, ?_, ?_, ?_, h.mst, ?_, ?_, ?_⟩
  · obtain ⟨tr, htr, hkr⟩ := h.ok.dir
    obtain ⟨u, hu, hk', _⟩ := live r tr htr
    exact ⟨u, hu, hk'.trans hkr⟩
  · intro y t' e
    rcases cases' y t' e with ⟨rfl, rfl⟩ | ⟨rfl, rfl⟩ | ⟨_, _, e'⟩
    · exact .inr h2
    · exact hk
    · exact h.ok.kind y t' e'
  · intro y t' x c e hy
    rcases hmem y t' e _ (mem_look hy) with ⟨_, q⟩ | ⟨u, hu, q⟩
    · cases q; exact ⟨_, hTb⟩
    · obtain ⟨⟨v, hv⟩, _⟩ := h.liv y u hu _ q
      obtain ⟨v', hv', _⟩ := live _ v hv
      exact ⟨v', hv'⟩
  · intro y t' e a he
    rcases hmem y t' e a he with ⟨rfl, rfl⟩ | ⟨u, hu, q⟩
    · show (if b = b then 0 else _) < (if y = b then 0 else _)
      rw [if_pos rfl, if_neg hdb]; omega
    · have hyb : y ≠ b := fun e' => by subst e'; rw [hb] at hu; cases hu
      have := hrk y u hu a q
      show (if a.2 = b then 0 else _) < (if y = b then 0 else _)
      rw [if_neg hyb]
      split <;> omega
  · intro y t' e a he
    rcases hmem y t' e a he with ⟨rfl, rfl⟩ | ⟨u, hu, q⟩
    · exact ⟨⟨_, hTb⟩, hz⟩
    · obtain ⟨⟨v, hv⟩, hl⟩ := h.liv y u hu _ q
      obtain ⟨v', hv', _⟩ := live _ v hv
      exact ⟨⟨v', hv'⟩, hl⟩
  · intro y t' e
    rcases cases' y t' e with ⟨rfl, rfl⟩ | ⟨rfl, rfl⟩ | ⟨_, _, e'⟩
    · exact rise_put z b (h.ris _ t ht)
    · exact List.Pairwise.nil
    · exact h.ris y t' e'
  · intro y t' e
    rcases cases' y t' e with ⟨rfl, rfl⟩ | ⟨rfl, rfl⟩ | ⟨_, _, e'⟩
    · exact (hget _ _).2 (.inr (h.num _ t ht))
    · exact (hget _ _).2 (.inl ⟨rfl, rfl⟩)
    · exact (hget _ _).2 (.inr (h.num y t' e'))
  · intro i y e
    rcases (hget i y).1 e with ⟨rfl, rfl⟩ | e'
    · exact ⟨_, hTb, rfl⟩
    · obtain ⟨u, hu, hn⟩ := h.row i y e'
      obtain ⟨u', hu', _, hn'⟩ := live y u hu
      exact ⟨u', hu', hn'.trans hn⟩
  · intro y t' e hne
    rw [hcnt]
    rcases cases' y t' e with ⟨rfl, rfl⟩ | ⟨rfl, rfl⟩ | ⟨_, h3, e'⟩
    · have := h.lnk _ t ht hne
      rw [if_neg (fun e => hdb e.symm)]
      exact ⟨this.1, this.2⟩
    · rw [if_pos rfl, hcb]
      exact ⟨rfl, Nat.le_refl _⟩
    · have := h.lnk y t' e' hne
      rw [if_neg (fun e => h3 e.symm)]
      exact ⟨this.1, this.2⟩
  · rw [hcnt, h.top, if_neg hbr]
  · intro y t' e hk'
    rw [hcnt]
    rcases cases' y t' e with ⟨rfl, rfl⟩ | ⟨rfl, rfl⟩ | ⟨_, h3, e'⟩
    · have := h.dir _ t ht h2
      rw [if_neg (fun e => hdb e.symm)]
      exact this
    · rw [if_pos rfl, hcb]
      exact ⟨rfl, Nat.le_refl _⟩
    · have := h.dir y t' e' hk'
      rw [if_neg (fun e => h3 e.symm)]
      exact this
  · intro y t' e hk'
    rcases cases' y t' e with ⟨rfl, rfl⟩ | ⟨rfl, rfl⟩ | ⟨_, _, e'⟩
    · have hk'' : t.k = 1 := hk'
      omega
    · rfl
    · exact h.fil y t' e' hk'
  · intro i y e
    obtain ⟨u, hu, hku⟩ := h.opn i y e
    obtain ⟨u', hu', hk', _⟩ := live y u hu
    exact ⟨u', hu', hk'.trans hku⟩
  · intro y t' e
    rcases cases' y t' e with ⟨rfl, rfl⟩ | ⟨rfl, rfl⟩ | ⟨_, _, e'⟩
    · exact h.siz _ t ht
    · exact h.mst.1
    · exact h.siz y t' e'
  · rw [hall]; have := h.few; omega
  · rw [hrow]
    have := h.len
    unfold pad
    simp
    omega
  · rw [hrow]
    show f ≤ _
    unfold pad
    simp
    omega

end Go.Proofs.YtknmgefpjdfenaaGreat

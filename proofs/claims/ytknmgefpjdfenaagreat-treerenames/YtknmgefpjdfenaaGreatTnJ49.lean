/- Joined: TWfB, TPath. -/
import Derived.Test.YtknmgefpjdfenaaGreatTnTWf
/- Calls that take names away, or turn them, keep a tree sound. -/
namespace Go.Proofs.YtknmgefpjdfenaaGreat
open Go.RowKit Go.Shelf Go.Maps
set_option linter.unusedVariables false
set_option maxRecDepth 100000

theorem mem_del' {z : List UInt8} {ns : NS} {e : List UInt8 × Nat} (h : e ∈ delN z ns) : e ∈ ns ∧ e.1 ≠ z := by
  have := List.mem_filter.1 h
  exact ⟨this.1, by simpa using this.2⟩

theorem Wf.gone2 {s : Tr} {r n d x : Nat} {t tx : Th} {z : List UInt8} (h : Wf s r n) (ht : s.T d = some t) (h2 : t.k = 2) (hc : t.ns.lookup z = some x) (hx : s.T x = some tx) (hl : tx.l ≠ 1) (hdx : d ≠ x) (hxr : x ≠ r) : Wf (s.gone d t z x tx) r n := by
  have hg : s.gone d t z x tx = (s.upd d { t with ns := delN z t.ns }).upd x { tx with l := tx.l - 1 } := by unfold Tr.gone; rw [if_neg hl]
  rw [hg]
  have hlx := h.lnk x tx hx hxr
  have hk : tx.k = 1 := by
    rcases h.ok.kind x tx hx with q | q
    · exact q
    · have := (h.dir x tx hx q).2
      omega
  generalize hs' : (s.upd d { t with ns := delN z t.ns }).upd x { tx with l := tx.l - 1 } = s'
  have hrow : s'.row = s.row := by rw [← hs']; rfl
  have hmost : s'.most = s.most := by rw [← hs']; rfl
  have hleast : s'.least = s.least := by rw [← hs']; rfl
  have hopn : s'.opn = s.opn := by rw [← hs']; rfl
  have hT : ∀ k, s'.T k = if k = x then some { tx with l := tx.l - 1 } else if k = d then some { t with ns := delN z t.ns } else s.T k := fun k => by rw [← hs']; rfl
  clear hs' hg
  have hTx : s'.T x = some { tx with l := tx.l - 1 } := by rw [hT, if_pos rfl]
  have hTd : s'.T d = some { t with ns := delN z t.ns } := by rw [hT, if_neg hdx, if_pos rfl]
  have hTo : ∀ k, k ≠ d → k ≠ x → s'.T k = s.T k := fun k h1 h2 => by rw [hT, if_neg h2, if_neg h1]
  have cases' : ∀ b t', s'.T b = some t' → (b = d ∧ t' = { t with ns := delN z t.ns }) ∨ (b = x ∧ t' = { tx with l := tx.l - 1 }) ∨ (b ≠ d ∧ b ≠ x ∧ s.T b = some t') := fun b t' e => by
    by_cases h1 : b = d
    · subst h1; rw [hTd] at e; cases e; exact .inl ⟨rfl, rfl⟩
    · by_cases h3 : b = x
      · subst h3; rw [hTx] at e; cases e; exact .inr (.inl ⟨rfl, rfl⟩)
      · rw [hTo b h1 h3] at e; exact .inr (.inr ⟨h1, h3, e⟩)
  have live : ∀ c u, s.T c = some u → ∃ u', s'.T c = some u' ∧ u'.k = u.k ∧ u'.n = u.n := fun c u e => by
    by_cases h1 : c = d
    · subst h1; rw [ht] at e; cases e; exact ⟨_, hTd, rfl, rfl⟩
    · by_cases h3 : c = x
      · subst h3; rw [hx] at e; cases e; exact ⟨_, hTx, rfl, rfl⟩
      · exact ⟨u, by rw [hTo c h1 h3]; exact e, rfl, rfl⟩
  have hns : ∀ k, k ≠ d → s'.nsOf k = s.nsOf k := fun k hkd => by
    by_cases h3 : k = x
    · subst h3; rw [nsOf_some hTx, nsOf_some hx]
    · unfold Tr.nsOf; rw [hTo k hkd h3]
  have hnd : s'.nsOf d = delN z t.ns := nsOf_some hTd
  have hcnt : ∀ y, s'.cnt y + (if x = y then 1 else 0) = s.cnt y := fun y => by
    have := names_edit (s := s) (s' := s') (fun ns => nmc ns y) hrow (h.num d t ht) (fun j hj => h.once hj (h.num d t ht)) hns
    rw [hnd, nsOf_some ht] at this
    have h3 := nmc_del (h.ris d t ht) hc y
    unfold Tr.cnt
    omega
  have hall : s'.all + 1 = s.all := by
    have := names_edit (s := s) (s' := s') (fun ns => ns.length) hrow (h.num d t ht) (fun j hj => h.once hj (h.num d t ht)) hns
    rw [hnd, nsOf_some ht] at this
    have h3 := len_del (h.ris d t ht) hc
    unfold Tr.all
    omega
  have hmem : ∀ b t', s'.T b = some t' → ∀ e ∈ t'.ns, ∃ u, s.T b = some u ∧ e ∈ u.ns := fun b t' e a he => by
    rcases cases' b t' e with ⟨rfl, rfl⟩ | ⟨rfl, rfl⟩ | ⟨_, _, e'⟩
    · exact ⟨t, ht, mem_del he⟩
    · exact ⟨tx, hx, he⟩
    · exact ⟨t', e', he⟩
  have hother : ∀ y, y ≠ x → s'.cnt y = s.cnt y := fun y hy => by
    have := hcnt y
    rw [if_neg (fun e => hy e.symm)] at this
    omega
  obtain ⟨rk, hrk⟩ := h.rk
  refine ⟨⟨by rw [hrow]; exact h.ok.root, ?_, ?_, ?_⟩, ⟨rk, ?_⟩, ?_, ?_, ?_, ?_, ?_, ?_, ?_, ?_, ?_, ?_, by rw [hmost]; exact h.mst, ?_, by rw [hrow]; exact h.len, by rw [hrow, hleast]; exact h.lst⟩
  · obtain ⟨tr, htr, hkr⟩ := h.ok.dir
    obtain ⟨u, hu, hk', _⟩ := live r tr htr
    exact ⟨u, hu, hk'.trans hkr⟩
  · intro b t' e
    rcases cases' b t' e with ⟨rfl, rfl⟩ | ⟨rfl, rfl⟩ | ⟨_, _, e'⟩
    · exact .inr h2
    · exact .inl hk
    · exact h.ok.kind b t' e'
  · intro b t' y c e hy
    obtain ⟨u, hu, q⟩ := hmem b t' e _ (mem_look hy)
    obtain ⟨⟨v, hv⟩, _⟩ := h.liv b u hu _ q
    obtain ⟨v', hv', _⟩ := live _ v hv
    exact ⟨v', hv'⟩
  · intro b t' e a he
    obtain ⟨u, hu, q⟩ := hmem b t' e a he
    exact hrk b u hu a q
  · intro b t' e a he
    obtain ⟨u, hu, q⟩ := hmem b t' e a he
    obtain ⟨⟨v, hv⟩, hl⟩ := h.liv b u hu _ q
    obtain ⟨v', hv', _⟩ := live _ v hv
    exact ⟨⟨v', hv'⟩, hl⟩
  · intro b t' e
    rcases cases' b t' e with ⟨rfl, rfl⟩ | ⟨rfl, rfl⟩ | ⟨_, _, e'⟩
    · exact rise_del z (h.ris _ t ht)
    · exact h.ris _ tx hx
    · exact h.ris b t' e'
  · intro b t' e
    rw [hrow]
    rcases cases' b t' e with ⟨rfl, rfl⟩ | ⟨rfl, rfl⟩ | ⟨_, _, e'⟩
    · exact h.num _ t ht
    · exact h.num _ tx hx
    · exact h.num b t' e'
  · intro i b e
    rw [hrow] at e
    obtain ⟨u, hu, hn⟩ := h.row i b e
    obtain ⟨u', hu', _, hn'⟩ := live b u hu
    exact ⟨u', hu', hn'.trans hn⟩
  · intro b t' e hne
    rcases cases' b t' e with ⟨rfl, rfl⟩ | ⟨rfl, rfl⟩ | ⟨_, h3, e'⟩
    · rw [hother _ hdx]
      exact h.lnk _ t ht hne
    · have h3 := hcnt b
      rw [if_pos rfl] at h3
      refine ⟨?_, by omega⟩
      show tx.l - 1 = _
      omega
    · rw [hother b h3]
      exact h.lnk b t' e' hne
  · rw [hother r (fun e => hxr e.symm)]; exact h.top
  · intro b t' e hk'
    rcases cases' b t' e with ⟨rfl, rfl⟩ | ⟨rfl, rfl⟩ | ⟨_, h3, e'⟩
    · rw [hother _ hdx]
      exact h.dir _ t ht h2
    · have hk'' : tx.k = 2 := hk'
      omega
    · rw [hother b h3]
      exact h.dir b t' e' hk'
  · intro b t' e hk'
    rcases cases' b t' e with ⟨rfl, rfl⟩ | ⟨rfl, rfl⟩ | ⟨_, _, e'⟩
    · have hk'' : t.k = 1 := hk'
      omega
    · exact h.fil _ tx hx hk
    · exact h.fil b t' e' hk'
  · intro f b e
    rw [hopn] at e
    obtain ⟨u, hu, hku⟩ := h.opn f b e
    obtain ⟨u', hu', hk', _⟩ := live b u hu
    exact ⟨u', hu', hk'.trans hku⟩
  · intro b t' e
    rw [hmost]
    rcases cases' b t' e with ⟨rfl, rfl⟩ | ⟨rfl, rfl⟩ | ⟨_, _, e'⟩
    · exact h.siz _ t ht
    · exact h.siz _ tx hx
    · exact h.siz b t' e'
  · have := h.few; omega

theorem Wf.gone1 {s : Tr} {r n d x : Nat} {t tx : Th} {z : List UInt8} (h : Wf s r n) (ht : s.T d = some t) (h2 : t.k = 2) (hc : t.ns.lookup z = some x) (hx : s.T x = some tx) (hl : tx.l = 1) (hdx : d ≠ x) (hxr : x ≠ r) (hxe : tx.ns = []) (hxo : ∀ f, s.opn f ≠ some x) : Wf (s.gone d t z x tx) r n := by
  have hg : s.gone d t z x tx = { ((s.upd d { t with ns := delN z t.ns }).less x) with row := s.row.set tx.n none, least := min s.least tx.n } := by unfold Tr.gone; rw [if_pos hl]
  rw [hg]
  have hlx := h.lnk x tx hx hxr
  have hc1 : s.cnt x = 1 := by omega
  have hnx := h.num x tx hx
  generalize hs' : ({ ((s.upd d { t with ns := delN z t.ns }).less x) with row := s.row.set tx.n none, least := min s.least tx.n } : Tr) = s'
  have hrow : s'.row = s.row.set tx.n none := by rw [← hs']
  have hmost : s'.most = s.most := by rw [← hs']; rfl
  have hleast : s'.least = min s.least tx.n := by rw [← hs']
  have hopn : s'.opn = s.opn := by rw [← hs']; rfl
  have hT : ∀ k, s'.T k = if k = x then none else if k = d then some { t with ns := delN z t.ns } else s.T k := fun k => by rw [← hs']; rfl
  clear hs' hg
  have hTx : s'.T x = none := by rw [hT, if_pos rfl]
  have hTd : s'.T d = some { t with ns := delN z t.ns } := by rw [hT, if_neg hdx, if_pos rfl]
  have hTo : ∀ k, k ≠ d → k ≠ x → s'.T k = s.T k := fun k h1 h2 => by rw [hT, if_neg h2, if_neg h1]
  have cases' : ∀ b t', s'.T b = some t' → b ≠ x ∧ ((b = d ∧ t' = { t with ns := delN z t.ns }) ∨ (b ≠ d ∧ s.T b = some t')) := fun b t' e => by
    by_cases h3 : b = x
    · subst h3; rw [hTx] at e; cases e
    · by_cases h1 : b = d
      · subst h1; rw [hTd] at e; cases e; exact ⟨h3, .inl ⟨rfl, rfl⟩⟩
      · rw [hTo b h1 h3] at e; exact ⟨h3, .inr ⟨h1, e⟩⟩
  have live : ∀ c u, c ≠ x → s.T c = some u → ∃ u', s'.T c = some u' ∧ u'.k = u.k ∧ u'.n = u.n := fun c u hcx e => by
    by_cases h1 : c = d
    · subst h1; rw [ht] at e; cases e; exact ⟨_, hTd, rfl, rfl⟩
    · exact ⟨u, by rw [hTo c h1 hcx]; exact e, rfl, rfl⟩
  have hns : ∀ k, k ≠ d → s'.nsOf k = s.nsOf k := fun k hkd => by
    by_cases h3 : k = x
    · subst h3; rw [nsOf_none hTx, nsOf_some hx, hxe]
    · unfold Tr.nsOf; rw [hTo k hkd h3]
  have hnd : s'.nsOf d = delN z t.ns := nsOf_some hTd
  have hsum : ∀ V : NS → Nat, V [] = 0 → sumR (fun y => V (s'.nsOf y)) s'.row + V t.ns = sumR (fun y => V (s.nsOf y)) s.row + V (delN z t.ns) := fun V hV => by
    have h3 := sumR_upd (F := fun y => V (s.nsOf y)) (G := fun y => V (s'.nsOf y)) (h.num d t ht) (fun j hj => h.once hj (h.num d t ht)) (fun y hy => by rw [hns y hy])
    have h4 := sumR_set (fun y => V (s'.nsOf y)) s.row tx.n (some x) none hnx
    rw [hnd, nsOf_some ht] at h3
    have h5 : V (s'.nsOf x) = 0 := by rw [nsOf_none hTx]; exact hV
    simp only [Option.elim_some, Option.elim_none, h5] at h4
    rw [hrow]
    omega
  have hcnt : ∀ y, s'.cnt y + (if x = y then 1 else 0) = s.cnt y := fun y => by
    have := hsum (fun ns => nmc ns y) rfl
    have h3 := nmc_del (h.ris d t ht) hc y
    unfold Tr.cnt
    omega
  have hall : s'.all + 1 = s.all := by
    have := hsum (fun ns => ns.length) rfl
    have h3 := len_del (h.ris d t ht) hc
    unfold Tr.all
    omega
  have hmem : ∀ b t', s'.T b = some t' → ∀ e ∈ t'.ns, e.2 ≠ x ∧ ∃ u, s.T b = some u ∧ e ∈ u.ns := fun b t' e a he => by
    obtain ⟨hbx, q⟩ := cases' b t' e
    rcases q with ⟨rfl, rfl⟩ | ⟨hbd, e'⟩
    · obtain ⟨h3, h4⟩ := mem_del' he
      refine ⟨fun q => ?_, t, ht, h3⟩
      have := (h.one ht ht h3 (mem_look hc) q (by rw [q, hc1]; exact Nat.le_refl _)).2
      exact h4 (by rw [this])
    · refine ⟨fun q => ?_, t', e', he⟩
      have := (h.one e' ht he (mem_look hc) q (by rw [q, hc1]; exact Nat.le_refl _)).1
      exact hbd this
  have hother : ∀ y, y ≠ x → s'.cnt y = s.cnt y := fun y hy => by
    have := hcnt y
    rw [if_neg (fun e => hy e.symm)] at this
    omega
  have hget : ∀ i c, s'.row[i]? = some (some c) ↔ i ≠ tx.n ∧ s.row[i]? = some (some c) := fun i c => by
    rw [hrow]
    by_cases hi : tx.n = i
    · subst hi
      rw [List.getElem?_set_self (List.getElem?_eq_some_iff.1 hnx).1]
      simp
    · rw [List.getElem?_set_ne hi]
      exact ⟨fun q => ⟨fun e => hi e.symm, q⟩, fun q => q.2⟩
  have hnum : ∀ c u, c ≠ x → s.T c = some u → s'.row[u.n]? = some (some c) := fun c u hcx hu => by
    refine (hget _ _).2 ⟨fun e => ?_, h.num c u hu⟩
    have h3 := h.num c u hu
    rw [e, hnx] at h3
    cases h3
    exact hcx rfl
  obtain ⟨rk, hrk⟩ := h.rk
  obtain ⟨tr, htr, hkr, hnr⟩ := h.root
  refine ⟨⟨?_, ?_, ?_, ?_⟩, ⟨rk, ?_⟩, ?_, ?_, ?_, ?_, ?_, ?_, ?_, ?_, ?_, ?_, by rw [hmost]; exact h.mst, ?_, ?_, ?_⟩
  · have := hnum r tr (fun e => hxr e.symm) htr
    rwa [hnr] at this
  · obtain ⟨u, hu, hk', _⟩ := live r tr (fun e => hxr e.symm) htr
    exact ⟨u, hu, hk'.trans hkr⟩
  · intro b t' e
    obtain ⟨_, q⟩ := cases' b t' e
    rcases q with ⟨rfl, rfl⟩ | ⟨_, e'⟩
    · exact .inr h2
    · exact h.ok.kind b t' e'
  · intro b t' y c e hy
    obtain ⟨h3, u, hu, q⟩ := hmem b t' e _ (mem_look hy)
    obtain ⟨⟨v, hv⟩, _⟩ := h.liv b u hu _ q
    obtain ⟨v', hv', _⟩ := live _ v h3 hv
    exact ⟨v', hv'⟩
  · intro b t' e a he
    obtain ⟨_, u, hu, q⟩ := hmem b t' e a he
    exact hrk b u hu a q
  · intro b t' e a he
    obtain ⟨h3, u, hu, q⟩ := hmem b t' e a he
    obtain ⟨⟨v, hv⟩, hl⟩ := h.liv b u hu _ q
    obtain ⟨v', hv', _⟩ := live _ v h3 hv
    exact ⟨⟨v', hv'⟩, hl⟩
  · intro b t' e
    obtain ⟨_, q⟩ := cases' b t' e
    rcases q with ⟨rfl, rfl⟩ | ⟨_, e'⟩
    · exact rise_del z (h.ris _ t ht)
    · exact h.ris b t' e'
  · intro b t' e
    obtain ⟨hbx, q⟩ := cases' b t' e
    rcases q with ⟨rfl, rfl⟩ | ⟨_, e'⟩
    · exact hnum _ t hbx ht
    · exact hnum b t' hbx e'
  · intro i b e
    obtain ⟨hi, e'⟩ := (hget i b).1 e
    obtain ⟨u, hu, hn⟩ := h.row i b e'
    have hbx : b ≠ x := fun q => by
      subst q
      rw [hx] at hu
      cases hu
      exact hi hn.symm
    obtain ⟨u', hu', _, hn'⟩ := live b u hbx hu
    exact ⟨u', hu', hn'.trans hn⟩
  · intro b t' e hne
    obtain ⟨hbx, q⟩ := cases' b t' e
    rw [hother b hbx]
    rcases q with ⟨rfl, rfl⟩ | ⟨_, e'⟩
    · exact h.lnk _ t ht hne
    · exact h.lnk b t' e' hne
  · rw [hother r (fun e => hxr e.symm)]; exact h.top
  · intro b t' e hk'
    obtain ⟨hbx, q⟩ := cases' b t' e
    rw [hother b hbx]
    rcases q with ⟨rfl, rfl⟩ | ⟨_, e'⟩
    · exact h.dir _ t ht h2
    · exact h.dir b t' e' hk'
  · intro b t' e hk'
    obtain ⟨_, q⟩ := cases' b t' e
    rcases q with ⟨rfl, rfl⟩ | ⟨_, e'⟩
    · have hk'' : t.k = 1 := hk'
      omega
    · exact h.fil b t' e' hk'
  · intro f b e
    rw [hopn] at e
    obtain ⟨u, hu, hku⟩ := h.opn f b e
    obtain ⟨u', hu', hk', _⟩ := live b u (fun q => by subst q; exact hxo f e) hu
    exact ⟨u', hu', hk'.trans hku⟩
  · intro b t' e
    rw [hmost]
    obtain ⟨_, q⟩ := cases' b t' e
    rcases q with ⟨rfl, rfl⟩ | ⟨_, e'⟩
    · exact h.siz _ t ht
    · exact h.siz b t' e'
  · have := h.few; omega
  · rw [hrow, List.length_set]; exact h.len
  · rw [hrow, hleast, List.length_set]
    have := h.lst
    omega

theorem Wf.gone {s : Tr} {r n d x : Nat} {t tx : Th} {z : List UInt8} (h : Wf s r n) (hn : n ≤ 1000000) (ht : s.T d = some t) (h2 : t.k = 2) (hc : t.ns.lookup z = some x) (hx : s.T x = some tx) (hxe : tx.ns = []) (hxo : tx.l = 1 → ∀ f, s.opn f ≠ some x) : Wf (s.gone d t z x tx) r n := by
  obtain ⟨q1, _, _, q4, _⟩ := h.dropable hn ht hc hx
  by_cases hl : tx.l = 1
  · exact h.gone1 ht h2 hc hx hl q1 q4 hxe (hxo hl)
  · exact h.gone2 ht h2 hc hx hl q1 q4

/-- What is below x, and x. -/
inductive Dn (s : Tr) (x : Nat) : Nat → Prop
  | refl : Dn s x x
  | step {b : Nat} {t : Th} {e : List UInt8 × Nat} : Dn s x b → s.T b = some t → e ∈ t.ns → Dn s x e.2

/-- A block's names behind a move. -/
def mvN (d : Nat) (z : List UInt8) (d2 : Nat) (z2 : List UInt8) (x k : Nat) (ns : NS) : NS := if k = d2 then putN z2 x (if k = d then delN z ns else ns) else if k = d then delN z ns else ns

theorem moved_T {s : Tr} {d d2 x : Nat} {t t2 : Th} {z z2 : List UInt8} (ht : s.T d = some t) (ht2 : s.T d2 = some t2) (k : Nat) : (s.moved d z d2 z2 x).T k = (s.T k).map (fun u => { u with ns := mvN d z d2 z2 x k u.ns }) := by
  have h1 : ∀ k, (s.edit d (delN z)).T k = (s.T k).map (fun u => { u with ns := if k = d then delN z u.ns else u.ns }) := fun k => by
    rw [edit_some ht, Tr.upd_T]
    by_cases e : k = d
    · subst e; rw [if_pos rfl, ht]; simp
    · rw [if_neg e]
      cases s.T k with
      | none => rfl
      | some u => simp [e]
  have h3 : (s.edit d (delN z)).T d2 = some { t2 with ns := if d2 = d then delN z t2.ns else t2.ns } := by rw [h1, ht2]; rfl
  unfold Tr.moved
  rw [edit_some h3, Tr.upd_T]
  by_cases e : k = d2
  · subst e
    rw [if_pos rfl, ht2]
    simp [mvN]
  · rw [if_neg e, h1]
    cases s.T k with
    | none => rfl
    | some u => simp [mvN, e]

theorem mvN_mem {d d2 x k : Nat} {z z2 : List UInt8} {ns : NS} {e : List UInt8 × Nat} (h : e ∈ mvN d z d2 z2 x k ns) : (k = d2 ∧ e = (z2, x)) ∨ (e ∈ ns ∧ ¬ (k = d ∧ e.1 = z)) := by
  have aux : ∀ e, e ∈ (if k = d then delN z ns else ns) → e ∈ ns ∧ ¬ (k = d ∧ e.1 = z) := fun e he => by
    by_cases hd : k = d
    · rw [if_pos hd] at he
      have := mem_del' he
      exact ⟨this.1, fun q => this.2 q.2⟩
    · rw [if_neg hd] at he
      exact ⟨he, fun q => hd q.1⟩
  unfold mvN at h
  by_cases h2 : k = d2
  · rw [if_pos h2] at h
    rcases mem_put h with q | q
    · exact .inl ⟨h2, q⟩
    · exact .inr (aux e q)
  · rw [if_neg h2] at h
    exact .inr (aux e h)

theorem mvN_look {d d2 x k : Nat} {z z2 : List UInt8} (ns : NS) (y : List UInt8) : (mvN d z d2 z2 x k ns).lookup y = if k = d2 ∧ y = z2 then some x else if k = d ∧ y = z then none else ns.lookup y := by
  have aux : (if k = d then delN z ns else ns).lookup y = if k = d ∧ y = z then none else ns.lookup y := by
    by_cases hd : k = d
    · rw [if_pos hd, look_del]
      by_cases hz : y = z
      · rw [if_pos hz, if_pos ⟨hd, hz⟩]
      · rw [if_neg hz, if_neg (fun q : k = d ∧ y = z => hz q.2)]
    · rw [if_neg hd, if_neg (fun q : k = d ∧ y = z => hd q.1)]
  unfold mvN
  by_cases h2 : k = d2
  · rw [if_pos h2, look_put, aux]
    by_cases hy : y = z2
    · rw [if_pos hy, if_pos ⟨h2, hy⟩]
    · rw [if_neg hy, if_neg (fun q : k = d2 ∧ y = z2 => hy q.2)]
  · rw [if_neg h2, aux, if_neg (fun q : k = d2 ∧ y = z2 => h2 q.1)]

theorem mvN_rise {d d2 x k : Nat} {z z2 : List UInt8} {ns : NS} (h : Rise ns) : Rise (mvN d z d2 z2 x k ns) := by
  have aux : Rise (if k = d then delN z ns else ns) := by
    split
    · exact rise_del z h
    · exact h
  unfold mvN
  split
  · exact rise_put z2 x aux
  · exact aux

theorem Wf.moved {s : Tr} {r n d d2 x : Nat} {t t2 tx : Th} {z z2 : List UInt8} (h : Wf s r n) (ht : s.T d = some t) (h2 : t.k = 2) (hc : t.ns.lookup z = some x) (ht2 : s.T d2 = some t2) (h22 : t2.k = 2) (hc2 : t2.ns.lookup z2 = none) (hz2 : z2.length ≤ 200) (hx : s.T x = some tx) (hdn : ¬ Dn s x d2) : Wf (s.moved d z d2 z2 x) r n := by
  have hT := moved_T (z := z) (z2 := z2) (x := x) ht ht2
  have hrow : (s.moved d z d2 z2 x).row = s.row := by
    unfold Tr.moved
    rw [edit_some ht]
    obtain ⟨t3, h3⟩ : ∃ t3, (s.upd d { t with ns := delN z t.ns }).T d2 = some t3 := by
      rw [Tr.upd_T]
      split
      · exact ⟨_, rfl⟩
      · exact ⟨_, ht2⟩
    rw [edit_some h3]
    rfl
  have hoth : (s.moved d z d2 z2 x).most = s.most ∧ (s.moved d z d2 z2 x).least = s.least ∧ (s.moved d z d2 z2 x).opn = s.opn := by
    unfold Tr.moved
    rw [edit_some ht]
    obtain ⟨t3, h3⟩ : ∃ t3, (s.upd d { t with ns := delN z t.ns }).T d2 = some t3 := by
      rw [Tr.upd_T]
      split
      · exact ⟨_, rfl⟩
      · exact ⟨_, ht2⟩
    rw [edit_some h3]
    exact ⟨rfl, rfl, rfl⟩
  generalize s.moved d z d2 z2 x = s' at *
  obtain ⟨hmost, hleast, hopn⟩ := hoth
  have cases' : ∀ b t', s'.T b = some t' → ∃ u, s.T b = some u ∧ t' = { u with ns := mvN d z d2 z2 x b u.ns } := fun b t' e => by
    rw [hT] at e
    obtain ⟨u, hu, he⟩ := Option.map_eq_some_iff.1 e
    exact ⟨u, hu, he.symm⟩
  have live : ∀ c u, s.T c = some u → s'.T c = some { u with ns := mvN d z d2 z2 x c u.ns } := fun c u e => by rw [hT, e]; rfl
  have hns : ∀ k, s'.nsOf k = match s.T k with | none => [] | some u => mvN d z d2 z2 x k u.ns := fun k => by
    unfold Tr.nsOf
    rw [hT]
    cases s.T k <;> rfl
  -- sums, by way of the tree between
  have hsum : ∀ V : NS → Nat, (∀ ns : NS, Rise ns → ns.lookup z = some x → V (delN z ns) + V [(z, x)] = V ns) → (∀ ns : NS, ns.lookup z2 = none → V (putN z2 x ns) = V ns + V [(z, x)]) → sumR (fun y => V (s'.nsOf y)) s'.row = sumR (fun y => V (s.nsOf y)) s.row := fun V hd hp => by
    have a1 := sumR_upd (F := fun y => V (s.nsOf y)) (G := fun y => V (if y = d then delN z (s.nsOf y) else s.nsOf y)) (h.num d t ht) (fun j hj => h.once hj (h.num d t ht)) (fun y hy => by rw [if_neg hy])
    have a2 := sumR_upd (F := fun y => V (if y = d then delN z (s.nsOf y) else s.nsOf y)) (G := fun y => V (s'.nsOf y)) (h.num d2 t2 ht2) (fun j hj => h.once hj (h.num d2 t2 ht2)) (fun y hy => by
      rw [hns]
      cases hu : s.T y with
      | none => simp [nsOf_none hu, delN]
      | some u => rw [nsOf_some hu]; simp only [mvN, if_neg hy])
    rw [if_pos rfl, nsOf_some ht] at a1
    rw [hns, ht2, nsOf_some ht2] at a2
    simp only [mvN] at a2
    have b1 := hd t.ns (h.ris d t ht) hc
    have b2 := hp (if d2 = d then delN z t2.ns else t2.ns) (by
      split
      · rw [look_del]; split
        · rfl
        · exact hc2
      · exact hc2)
    rw [hrow]
    simp only [if_true] at a2
    omega
  have hcnt : ∀ y, s'.cnt y = s.cnt y := fun y => by
    unfold Tr.cnt
    refine hsum (fun ns => nmc ns y) (fun ns hr hl => ?_) (fun ns hl => ?_)
    · have := nmc_del hr hl y
      simp only [nmc_cons, nmc_nil]
      omega
    · have := nmc_put x y hl
      simp only [nmc_cons, nmc_nil]
      omega
  have hall : s'.all = s.all := by
    unfold Tr.all
    refine hsum (fun ns => ns.length) (fun ns hr hl => ?_) (fun ns hl => ?_)
    · exact len_del hr hl
    · exact len_put x hl
  obtain ⟨rk, hrk⟩ := h.rk
  have hxr : x ≠ r := h.named_ne ht (mem_look hc)
  refine ⟨⟨by rw [hrow]; exact h.ok.root, ?_, ?_, ?_⟩, ?_, ?_, ?_, ?_, ?_, ?_, by rw [hcnt]; exact h.top, ?_, ?_, ?_, ?_, by rw [hmost]; exact h.mst, by rw [hall]; exact h.few, by rw [hrow]; exact h.len, by rw [hrow, hleast]; exact h.lst⟩
  · obtain ⟨tr, htr, hkr⟩ := h.ok.dir
    exact ⟨_, live r tr htr, hkr⟩
  · intro b t' e
    obtain ⟨u, hu, rfl⟩ := cases' b t' e
    exact h.ok.kind b u hu
  · intro b t' y c e hy
    obtain ⟨u, hu, rfl⟩ := cases' b t' e
    rcases mvN_mem (mem_look hy) with ⟨_, q⟩ | ⟨q, _⟩
    · cases q; exact ⟨_, live x tx hx⟩
    · obtain ⟨⟨v, hv⟩, _⟩ := h.liv b u hu _ q
      exact ⟨_, live _ v hv⟩
  · classical
    refine ⟨fun b => if Dn s x b then rk b else rk b + rk x + 1, fun b t' e a he => ?_⟩
    obtain ⟨u, hu, rfl⟩ := cases' b t' e
    rcases mvN_mem he with ⟨rfl, rfl⟩ | ⟨q, _⟩
    · show (if Dn s x x then rk x else _) < (if Dn s x b then _ else rk b + rk x + 1)
      rw [if_pos Dn.refl, if_neg hdn]
      omega
    · have hlt := hrk b u hu a q
      show (if Dn s x a.2 then rk a.2 else rk a.2 + rk x + 1) < (if Dn s x b then rk b else rk b + rk x + 1)
      by_cases hb : Dn s x b
      · rw [if_pos hb, if_pos (Dn.step hb hu q)]
        exact hlt
      · rw [if_neg hb]
        split <;> omega
  · intro b t' e a he
    obtain ⟨u, hu, rfl⟩ := cases' b t' e
    rcases mvN_mem he with ⟨_, rfl⟩ | ⟨q, _⟩
    · exact ⟨⟨_, live x tx hx⟩, hz2⟩
    · obtain ⟨⟨v, hv⟩, hl⟩ := h.liv b u hu _ q
      exact ⟨⟨_, live _ v hv⟩, hl⟩
  · intro b t' e
    obtain ⟨u, hu, rfl⟩ := cases' b t' e
    exact mvN_rise (h.ris b u hu)
  · intro b t' e
    obtain ⟨u, hu, rfl⟩ := cases' b t' e
    rw [hrow]
    exact h.num b u hu
  · intro i b e
    rw [hrow] at e
    obtain ⟨u, hu, hn⟩ := h.row i b e
    exact ⟨_, live b u hu, hn⟩
  · intro b t' e hne
    obtain ⟨u, hu, rfl⟩ := cases' b t' e
    rw [hcnt]
    exact h.lnk b u hu hne
  · intro b t' e hk'
    obtain ⟨u, hu, rfl⟩ := cases' b t' e
    rw [hcnt]
    exact h.dir b u hu hk'
  · intro b t' e hk'
    obtain ⟨u, hu, rfl⟩ := cases' b t' e
    have h1 : u.k = 1 := hk'
    have hbd : b ≠ d := fun q => by subst q; rw [ht] at hu; cases hu; omega
    have hbd2 : b ≠ d2 := fun q => by subst q; rw [ht2] at hu; cases hu; omega
    show mvN d z d2 z2 x b u.ns = []
    unfold mvN
    rw [if_neg hbd2, if_neg hbd]
    exact h.fil b u hu h1
  · intro f b e
    rw [hopn] at e
    obtain ⟨u, hu, hku⟩ := h.opn f b e
    exact ⟨_, live b u hu, hku⟩
  · intro b t' e
    obtain ⟨u, hu, rfl⟩ := cases' b t' e
    rw [hmost]
    exact h.siz b u hu

end Go.Proofs.YtknmgefpjdfenaaGreat

/- The paths of directories, and all that Rename does. -/
namespace Go.Proofs.YtknmgefpjdfenaaGreat
open Go.RowKit Go.Shelf Go.Maps
set_option linter.unusedVariables false
set_option maxRecDepth 100000

theorem go_snoc {s : Tr} {z : List UInt8} {c : Nat} : ∀ (ms : List (List UInt8)) (b : Nat), go s (ms ++ [z]) b = (0, some c) → ∃ d t, go s ms b = (0, some d) ∧ s.T d = some t ∧ t.k ≠ 1 ∧ t.ns.lookup z = some c
  | [], b, h => by
    unfold go at h
    cases ht : s.T b with
    | none => simp [ht] at h
    | some t =>
      simp only [List.nil_append, ht] at h
      by_cases hk : t.k = 1
      · rw [if_pos hk] at h; cases h
      · rw [if_neg hk] at h
        cases hl : t.ns.lookup z with
        | none => rw [hl] at h; cases h
        | some c' =>
          rw [hl] at h
          have : go s [] c' = (0, some c) := h
          unfold go at this
          cases this
          exact ⟨b, t, rfl, ht, hk, hl⟩
  | y :: r, b, h => by
    rw [List.cons_append] at h
    unfold go at h
    cases ht : s.T b with
    | none => simp [ht] at h
    | some t =>
      simp only [ht] at h
      by_cases hk : t.k = 1
      · rw [if_pos hk] at h; cases h
      · rw [if_neg hk] at h
        cases hl : t.ns.lookup y with
        | none => rw [hl] at h; cases h
        | some c' =>
          rw [hl] at h
          obtain ⟨d, u, h1, h2⟩ := go_snoc r c' h
          refine ⟨d, u, ?_, h2⟩
          unfold go
          simp only [ht, if_neg hk, hl]
          exact h1

theorem go_cat {s : Tr} {z : List UInt8} {c d : Nat} {t : Th} (h3 : s.T d = some t) (hk : t.k = 2) (hl : t.ns.lookup z = some c) : ∀ (ms : List (List UInt8)) (b : Nat), go s ms b = (0, some d) → go s (ms ++ [z]) b = (0, some c)
  | [], b, h => by
    unfold go at h
    cases h
    exact go_step h3 hk hl []
  | y :: r, b, h => by
    rw [List.cons_append]
    unfold go at h ⊢
    cases ht : s.T b with
    | none => simp [ht] at h
    | some u =>
      simp only [ht] at h ⊢
      by_cases hk : u.k = 1
      · rw [if_pos hk] at h; cases h
      · rw [if_neg hk] at h ⊢
        cases hl' : u.ns.lookup y with
        | none => rw [hl'] at h; cases h
        | some c' =>
          rw [hl'] at h
          exact go_cat h3 ‹t.k = 2› hl r c' h

theorem plc_go {s : Tr} {r d : Nat} {ms : List (List UInt8)} (hk : Ok s r) (h : plc s ms r = (0, some d)) : go s ms r = (0, some d) := by
  obtain ⟨tr, htr, _⟩ := hk.dir
  unfold plc at h
  rcases go_ends hk ms r ⟨tr, htr⟩ with ⟨h1, c, t, h2, h3⟩ | ⟨h1, h2⟩
  · rw [h2] at h
    simp only [h3] at h
    split at h
    · cases h
    · cases h
      exact Prod.ext h1 h2
  · rw [h2] at h
    have := congrArg Prod.snd h
    cases this

theorem go_plc {s : Tr} {r d : Nat} {t : Th} {ms : List (List UInt8)} (h : go s ms r = (0, some d)) (ht : s.T d = some t) (hk : t.k = 2) : plc s ms r = (0, some d) := by
  unfold plc
  rw [h]
  simp only [ht]
  rw [if_neg (by omega)]

/-- A directory has one path. -/
theorem Wf.path {s : Tr} {r n : Nat} (h : Wf s r n) : ∀ (k : Nat) (A B : List (List UInt8)) (c : Nat) (t : Th), A.length ≤ k → s.T c = some t → t.k = 2 → go s A r = (0, some c) → go s B r = (0, some c) → A = B
  | k, A, B, c, t, hkl, ht, hk, ha, hb => by
    rcases List.eq_nil_or_concat A with rfl | ⟨A', y, rfl⟩
    · unfold go at ha
      cases ha
      rcases List.eq_nil_or_concat B with rfl | ⟨B', y', rfl⟩
      · rfl
      · rw [List.concat_eq_append] at hb
        obtain ⟨p, u, _, hu, _, hl⟩ := go_snoc B' r hb
        exact absurd rfl (h.named_ne hu (mem_look hl))
    · rw [List.concat_eq_append] at ha hkl ⊢
      obtain ⟨p, u, hp, hu, hku, hl⟩ := go_snoc A' r ha
      rcases List.eq_nil_or_concat B with rfl | ⟨B', y', rfl⟩
      · unfold go at hb
        cases hb
        exact absurd rfl (h.named_ne hu (mem_look hl))
      · rw [List.concat_eq_append] at hb ⊢
        obtain ⟨p', u', hp', hu', hku', hl'⟩ := go_snoc B' r hb
        obtain ⟨e1, e2⟩ := h.one hu hu' (mem_look hl) (mem_look hl') rfl (h.dir c t ht hk).2
        cases e2
        subst e1
        rw [hu] at hu'
        cases hu'
        cases k with
        | zero => simp at hkl
        | succ k =>
          rw [h.path k A' B' p u (by simp at hkl; omega) hu (h.kind2 hu (mem_look hl)) hp hp']

/-- What leads below x leads by the way of x. -/
theorem Wf.below {s : Tr} {r n d x : Nat} {t : Th} {ms : List (List UInt8)} {z : List UInt8} (h : Wf s r n) (hd : go s ms r = (0, some d)) (ht : s.T d = some t) (h2 : t.k = 2) (hc : t.ns.lookup z = some x) : ∀ (k : Nat) (L : List (List UInt8)) (c : Nat) (u : Th), L.length ≤ k → s.T c = some u → u.k = 2 → go s L r = (0, some c) → Dn s x c → (ms ++ [z]).length ≤ L.length ∧ ms ++ [z] = L.take (ms ++ [z]).length
  | k, L, c, u, hkl, hu, hk, hg, hdn => by
    rcases List.eq_nil_or_concat L with rfl | ⟨L', y, rfl⟩
    · exfalso
      unfold go at hg
      cases hg
      cases hdn with
      | refl => exact h.named_ne ht (mem_look hc) rfl
      | step hb htb he => exact h.named_ne htb he rfl
    · rw [List.concat_eq_append] at hg hkl ⊢
      obtain ⟨p, v, hp, hv, hkv, hl⟩ := go_snoc L' r hg
      have hcc := (h.dir c u hu hk).2
      cases hdn with
      | refl =>
        obtain ⟨e1, e2⟩ := h.one hv ht (mem_look hl) (mem_look hc) rfl hcc
        subst e1
        cases e2
        rw [h.path L'.length L' ms p v (Nat.le_refl _) hv (h.kind2 hv (mem_look hl)) hp hd]
        exact ⟨Nat.le_refl _, by rw [List.take_length]⟩
      | @step b tb e hb htb he =>
        obtain ⟨e1, e2⟩ := h.one hv htb (mem_look hl) he rfl hcc
        subst e1
        cases k with
        | zero => simp at hkl
        | succ k =>
          obtain ⟨q1, q2⟩ := h.below hd ht h2 hc k L' p v (by simp at hkl; omega) hv (h.kind2 hv (mem_look hl)) hp hb
          refine ⟨by simp at q1 ⊢; omega, ?_⟩
          rw [List.take_append_of_le_length q1]
          exact q2

theorem Wf.not_below {s : Tr} {r n d x d2 : Nat} {t t2 : Th} {ms ms2 : List (List UInt8)} {z z2 : List UInt8} (h : Wf s r n) (hd : go s ms r = (0, some d)) (ht : s.T d = some t) (h2 : t.k = 2) (hc : t.ns.lookup z = some x) (hd2 : go s ms2 r = (0, some d2)) (ht2 : s.T d2 = some t2) (h22 : t2.k = 2)
    (hab : abo (ms ++ [z]) (ms2 ++ [z2]) = false) : ¬ Dn s x d2 := fun hdn => by
  obtain ⟨q1, q2⟩ := h.below hd ht h2 hc ms2.length ms2 d2 t2 (Nat.le_refl _) ht2 h22 hd2 hdn
  have : abo (ms ++ [z]) (ms2 ++ [z2]) = true := by
    unfold abo
    rw [Bool.and_eq_true]
    refine ⟨decide_eq_true (by simp at q1 ⊢; omega), decide_eq_true ?_⟩
    rw [List.take_append_of_le_length q1]
    exact q2
  rw [hab] at this
  cases this

/-- Behind Rename. -/
def RenP (s : Tr) (r : Nat) (p q : List UInt8) (s' : Tr) : Prop :=
  ∃ ms z d t x tx ms2 z2 d2 t2, spl p = some (ms ++ [z]) ∧ spl q = some (ms2 ++ [z2]) ∧ plc s ms r = (0, some d) ∧ s.T d = some t ∧ t.k = 2 ∧ t.ns.lookup z = some x ∧ s.T x = some tx ∧ plc s ms2 r = (0, some d2) ∧ s.T d2 = some t2 ∧ t2.k = 2 ∧
    ((t2.ns.lookup z2 = some x ∧ s' = s) ∨
      (abo (ms ++ [z]) (ms2 ++ [z2]) = false ∧ t2.ns.lookup z2 ≠ some x ∧ (∃ (n2 : Nat) (rk : Nat → Nat), Deep s rk ∧ rk x < n2 ∧ fitsB s n2 q x = true) ∧
        ((t2.ns.lookup z2 = none ∧ s' = s.moved d z d2 z2 x) ∨ ∃ y ty, t2.ns.lookup z2 = some y ∧ s.T y = some ty ∧ yE s y ty tx.k = 0 ∧ s' = (s.gone d2 t2 z2 y ty).moved d z d2 z2 x)))

theorem yE_zero {s : Tr} {y : Nat} {t : Th} {k : Int} (h : yE s y t k = 0) : t.ns = [] ∧ (t.l = 1 → ∀ f, f < 16 → s.opn f ≠ some y) := by
  unfold yE at h
  split at h
  · cases h
  · split at h
    · cases h
    · split at h
      · cases h
      · rename_i hl
        split at h
        · cases h
        · rename_i hk
          refine ⟨List.length_eq_zero_iff.1 (by omega), fun hl1 f hf ho => hk ?_⟩
          unfold Tr.keeps
          rw [hl1, (held_iff s y).2 ⟨f, hf, ho⟩]
          rfl

theorem gone_T {s : Tr} {d x : Nat} {t tx : Th} {z : List UInt8} (hdx : d ≠ x) : (s.gone d t z x tx).T d = some { t with ns := delN z t.ns } ∧ ∀ k, k ≠ d → k ≠ x → (s.gone d t z x tx).T k = s.T k := by
  unfold Tr.gone
  by_cases hl : tx.l = 1
  · rw [if_pos hl]
    refine ⟨?_, fun k h1 h2 => ?_⟩
    · show (if d = x then none else if d = d then _ else _) = _
      rw [if_neg hdx, if_pos rfl]
    · show (if k = x then none else if k = d then _ else _) = _
      rw [if_neg h2, if_neg h1]
  · rw [if_neg hl]
    refine ⟨?_, fun k h1 h2 => ?_⟩
    · show (if d = x then _ else if d = d then _ else _) = _
      rw [if_neg hdx, if_pos rfl]
    · show (if k = x then _ else if k = d then _ else _) = _
      rw [if_neg h2, if_neg h1]

theorem gone_edge {s : Tr} {d x b : Nat} {t tx u : Th} {z : List UInt8} (ht : s.T d = some t) (hx : s.T x = some tx) (hdx : d ≠ x) (h : (s.gone d t z x tx).T b = some u) {e : List UInt8 × Nat} (he : e ∈ u.ns) : ∃ v, s.T b = some v ∧ e ∈ v.ns := by
  obtain ⟨g1, g2⟩ := gone_T (s := s) (t := t) (z := z) (tx := tx) hdx
  by_cases h1 : b = d
  · subst h1
    rw [g1] at h
    cases h
    exact ⟨t, ht, mem_del he⟩
  · by_cases h2 : b = x
    · subst h2
      unfold Tr.gone at h
      by_cases hl : tx.l = 1
      · rw [if_pos hl] at h
        have h' : (if b = b then none else _) = some u := h
        rw [if_pos rfl] at h'
        cases h'
      · rw [if_neg hl] at h
        have h' : (if b = b then some { tx with l := tx.l - 1 } else _) = some u := h
        rw [if_pos rfl] at h'
        cases h'
        exact ⟨tx, hx, he⟩
    · rw [g2 b h1 h2] at h
      exact ⟨u, h, he⟩

theorem dn_gone {s : Tr} {d y b x : Nat} {t ty : Th} {z : List UInt8} (ht : s.T d = some t) (hy : s.T y = some ty) (hdy : d ≠ y) (h : Dn (s.gone d t z y ty) x b) : Dn s x b := by
  induction h with
  | refl => exact Dn.refl
  | step hb htb he ih =>
    obtain ⟨v, hv, hm⟩ := gone_edge ht hy hdy htb he
    exact Dn.step ih hv hm

theorem gone_opn {s : Tr} {d x : Nat} {t tx : Th} {z : List UInt8} : (s.gone d t z x tx).opn = s.opn := by
  unfold Tr.gone
  split <;> rfl

/-- What Rename over something finds behind drop. -/
theorem Wf.over {s : Tr} {r n d d2 x y : Nat} {t tx t2 ty : Th} {z z2 : List UInt8} {k : Int} (h : Wf s r n) (hn : n ≤ 900000) (ht : s.T d = some t) (h2 : t.k = 2) (hc : t.ns.lookup z = some x) (hx : s.T x = some tx) (ht2 : s.T d2 = some t2) (h22 : t2.k = 2) (hc2 : t2.ns.lookup z2 = some y) (hy : s.T y = some ty) (hxy : y ≠ x) (hE : yE s y ty k = 0)
    (ho : ∀ f b, s.opn f = some b → f < 16) (hxd : x ≠ d2) : Wf (s.gone d2 t2 z2 y ty) r n ∧ ∃ t1 t3, (s.gone d2 t2 z2 y ty).T d = some t1 ∧ t1.k = 2 ∧ t1.ns.lookup z = some x ∧ (s.gone d2 t2 z2 y ty).T d2 = some t3 ∧ t3.k = 2 ∧ t3.ns.lookup z2 = none ∧ (s.gone d2 t2 z2 y ty).T x = some tx := by
  obtain ⟨e1, e2⟩ := yE_zero hE
  have hw := h.gone (by omega) ht2 h22 hc2 hy e1 (fun hl f hf => e2 hl f (ho f y hf) hf)
  obtain ⟨q1, _⟩ := h.dropable (by omega) ht2 hc2 hy
  have hdy : d ≠ y := fun e => by
    subst e
    rw [ht] at hy
    cases hy
    rw [e1] at hc
    cases hc
  obtain ⟨g1, g2⟩ := gone_T (s := s) (t := t2) (z := z2) (tx := ty) q1
  refine ⟨hw, ?_⟩
  have hT3 : ({ t2 with ns := delN z2 t2.ns } : Th).ns.lookup z2 = none := by
    show (delN z2 t2.ns).lookup z2 = none
    rw [look_del, if_pos rfl]
  by_cases hd : d = d2
  · subst hd
    rw [ht] at ht2
    cases ht2
    have hz : z ≠ z2 := fun e => by
      subst e
      rw [hc] at hc2
      cases hc2
      exact hxy rfl
    refine ⟨_, _, g1, h2, ?_, g1, h2, hT3, by rw [g2 x hxd (fun e => hxy e.symm)]; exact hx⟩
    show (delN z2 t.ns).lookup z = some x
    rw [look_del, if_neg hz]
    exact hc
  · exact ⟨t, _, by rw [g2 d hd hdy]; exact ht, h2, hc, g1, h22, hT3, by rw [g2 x hxd (fun e => hxy e.symm)]; exact hx⟩

theorem RenP.wf {s s' : Tr} {r n : Nat} {p q : List UInt8} (h : Wf s r n) (hn : n ≤ 900000) (ho : ∀ f b, s.opn f = some b → f < 16) (hr : RenP s r p q s') : Wf s' r n := by
  obtain ⟨ms, z, d, t, x, tx, ms2, z2, d2, t2, hp, hq, e1, ht, h2, hc, hx, e2, ht2, h22, hcase⟩ := hr
  rcases hcase with ⟨_, rfl⟩ | ⟨hab, _, _, hcase⟩
  · exact h
  · have hdn := h.not_below (plc_go h.ok e1) ht h2 hc (plc_go h.ok e2) ht2 h22 hab
    rcases hcase with ⟨hc2, rfl⟩ | ⟨y, ty, hc2, hy, hE, rfl⟩
    · exact h.moved ht h2 hc ht2 h22 hc2 (name_len hq) hx hdn
    · have hxd : x ≠ d2 := fun e => by subst e; exact hdn Dn.refl
      have hxy : y ≠ x := fun e => by subst e; exact absurd hc2 ‹_›
      obtain ⟨hw, t1, t3, g1, g2, g3, g4, g5, g6, g7⟩ := h.over hn ht h2 hc hx ht2 h22 hc2 hy hxy hE ho hxd
      obtain ⟨q1, _⟩ := h.dropable (by omega) ht2 hc2 hy
      exact hw.moved g1 g2 g3 g4 g5 g6 (name_len hq) g7 (fun q => hdn (dn_gone ht2 hy q1 q))

theorem tkA_cases {s : Tr} {r : Nat} (hk : Ok s r) (ms : List (List UInt8)) (z : List UInt8) : (∃ E : Int, E ≠ 0 ∧ tkA s ms z r = .tuple #[.agg #[.pointer none, .string ⟨#[]⟩], .pointer none, .int .i64 E]) ∨ ∃ d t x, plc s ms r = (0, some d) ∧ s.T d = some t ∧ t.k = 2 ∧ t.ns.lookup z = some x := by
  rcases plc_cases hk ms with ⟨e1, e2⟩ | ⟨d, t, e1, ht, h2⟩
  · exact .inl ⟨_, by omega, tkA_err z e1⟩
  · cases hc : t.ns.lookup z with
    | none => exact .inl ⟨11, by decide, tkA_none e1 ht hc⟩
    | some x => exact .inr ⟨d, t, x, e1, ht, h2, hc⟩

theorem refE_spl {p q : List UInt8} {ps qs : List (List UInt8)} (hp : spl p = some ps) (hq : spl q = some qs) : p = q ↔ ps = qs := by
  constructor
  · intro e
    subst e
    rw [hp] at hq
    cases hq
    rfl
  · intro e
    subst e
    rw [(spl_some hp).2.1, (spl_some hq).2.1]

theorem rename_any {w : World} {S : Nat → Prop} {g r n : Nat} {s : Tr} (h : TM w S g s) (hw : Wf s r n) (hn : n ≤ 900000) (ho : ∀ f b, s.opn f = some b → f < 16) {p q : List UInt8} (hpl : p.length ≤ 9223372036854775807) (hql : q.length ≤ 9223372036854775807) :
    Calls Tryz.prog 16 #[.pointer (some ⟨g, 0, none⟩), .string (St p), .string (St q)] w fun e w' => CallP w S g s (RenP s r p q) e w' := by
  have no : ∀ {E : Int}, E ≠ 0 → ∀ e w', (e = .returned (.int .i64 E) ∧ Below w.heap.size w w') → CallP w S g s (RenP s r p q) e w' := by
    rintro E hE e w' ⟨rfl, hb⟩
    exact CallP.no h hE hb
  rcases refE_two p q with ⟨_, ps, qs, hp, hq⟩ | ⟨e0, _⟩
  · rcases List.eq_nil_or_concat ps with rfl | ⟨ms, z, rfl⟩
    · exact (ren_root h hw hn hp hq (.inl rfl)).mono (no (by decide))
    · rcases List.eq_nil_or_concat qs with rfl | ⟨ms2, z2, rfl⟩
      · exact (ren_root h hw hn hp hq (.inr rfl)).mono (no (by decide))
      · rw [List.concat_eq_append] at hp hq
        rcases tkA_cases hw.ok ms z with ⟨E, hE, hA⟩ | ⟨d, t, x, e1, ht, h2, hc⟩
        · exact (ren_tak h hw hn hp hq hE hA).mono (no hE)
        · obtain ⟨tx, hx⟩ := (hw.liv d t ht _ (mem_look hc)).1
          have same : ∀ {b : Bool} {d2 : Nat} {t2 : Th}, abo (ms ++ [z]) (ms2 ++ [z2]) = b → (b = false ∨ p = q) → plc s ms2 r = (0, some d2) → s.T d2 = some t2 → t2.k = 2 → t2.ns.lookup z2 = some x →
              Calls Tryz.prog 16 #[.pointer (some ⟨g, 0, none⟩), .string (St p), .string (St q)] w fun e w' => CallP w S g s (RenP s r p q) e w' := by
            intro b d2 t2 hab hb e2 ht2 h22 hc2
            refine (ren_same h hw hn hp hq e1 ht h2 hc e2 ht2 h22 hab hb hc2 ⟨tx, hx⟩).mono ?_
            rintro e w' ⟨rfl, hbl⟩
            exact ⟨0, s, rfl, h.up (Nat.le_refl _) hbl, Kp.of hbl, .inr ⟨rfl, ms, z, d, t, x, tx, ms2, z2, d2, t2, hp, hq, e1, ht, h2, hc, hx, e2, ht2, h22, .inl ⟨hc2, rfl⟩⟩⟩
          cases hab : abo (ms ++ [z]) (ms2 ++ [z2]) with
          | true =>
            by_cases hpq : p = q
            · have e := (refE_spl hp hq).1 hpq
              obtain ⟨ea, eb⟩ := List.append_inj' e rfl
              cases eb
              subst ea
              exact same hab (.inr hpq) e1 ht h2 hc
            · exact (ren_abo h hw hn hp hq e1 ht h2 hc hab hpq).mono (no (by decide))
          | false =>
            rcases plc_cases hw.ok ms2 with ⟨q1, q2⟩ | ⟨d2, t2, e2, ht2, h22⟩
            · exact (ren_plc h hw hn hp hq e1 ht h2 hc hab ⟨q1, by omega⟩).mono (no (by omega))
            · obtain ⟨rk, hdp, hrk⟩ := hw.deep (by omega)
              have hnn : rk x < n + 3 := by have := hrk x; omega
              cases hc2 : t2.ns.lookup z2 with
              | none =>
                cases hfit : fitsB s (n + 3) q x with
                | false => exact (ren_fit0 h hw hn hp hq e1 ht h2 hc e2 ht2 h22 hab hc2 hx hdp hnn (by omega) hfit).mono (no (by decide))
                | true =>
                  refine (ren_mov h hw hn hp hq e1 ht h2 hc e2 ht2 h22 hab hc2 hx hdp hnn (by omega) hfit).mono ?_
                  rintro e w' ⟨rfl, htm, hkp⟩
                  exact ⟨0, _, rfl, htm, hkp, .inr ⟨rfl, ms, z, d, t, x, tx, ms2, z2, d2, t2, hp, hq, e1, ht, h2, hc, hx, e2, ht2, h22, .inr ⟨hab, by rw [hc2]; exact fun q => (by cases q), ⟨n + 3, rk, hdp, hnn, hfit⟩, .inl ⟨hc2, rfl⟩⟩⟩⟩
              | some y =>
                by_cases hxy : y = x
                · subst hxy
                  exact same hab (.inl rfl) e2 ht2 h22 hc2
                · obtain ⟨ty, hy⟩ := (hw.liv d2 t2 ht2 _ (mem_look hc2)).1
                  cases hfit : fitsB s (n + 3) q x with
                  | false => exact (ren_fit1 h hw hn hp hq e1 ht h2 hc e2 ht2 h22 hab hy hxy hc2 hx hdp hnn (by omega) hfit).mono (no (by decide))
                  | true =>
                    by_cases hE : yE s y ty tx.k = 0
                    · have hdn := hw.not_below (plc_go hw.ok e1) ht h2 hc (plc_go hw.ok e2) ht2 h22 hab
                      have hxd : x ≠ d2 := fun e => by subst e; exact hdn Dn.refl
                      obtain ⟨hw1, t1, t3, g1, g2, g3, g4, g5, g6, g7⟩ := hw.over hn ht h2 hc hx ht2 h22 hc2 hy hxy hE ho hxd
                      obtain ⟨t4, k1, k2, k3⟩ : ∃ t4, ((s.gone d2 t2 z2 y ty).edit d (delN z)).T d2 = some t4 ∧ t4.k = 2 ∧ t4.ns.length < 1000000000 := by
                        rw [edit_some g1, Tr.upd_T]
                        have := hw1.ns_le g1
                        have := hw1.ns_le g4
                        by_cases e : d2 = d
                        · rw [if_pos e]
                          exact ⟨_, rfl, g2, by have := List.length_filter_le (fun e : List UInt8 × Nat => !(e.1 == z)) t1.ns; show (delN z t1.ns).length < _; unfold delN; omega⟩
                        · rw [if_neg e]
                          exact ⟨t3, g4, g5, by omega⟩
                      refine (ren_ovr h hw hn hp hq e1 ht h2 hc e2 ht2 h22 hab hy hxy hc2 hx hdp hnn (by omega) hfit hE g1 g2 k1 k2 k3).mono ?_
                      rintro e w' ⟨rfl, htm, hkp⟩
                      exact ⟨0, _, rfl, htm, hkp, .inr ⟨rfl, ms, z, d, t, x, tx, ms2, z2, d2, t2, hp, hq, e1, ht, h2, hc, hx, e2, ht2, h22, .inr ⟨hab, by rw [hc2]; exact fun q => hxy (by cases q; rfl), ⟨n + 3, rk, hdp, hnn, hfit⟩, .inr ⟨y, ty, hc2, hy, hE, rfl⟩⟩⟩⟩
                    · exact (ren_yld h hw hn hp hq e1 ht h2 hc e2 ht2 h22 hab hy hxy hc2 hx hdp hnn (by omega) hfit hE).mono (no hE)
  · exact (ren_bad h hw hn hpl hql e0).mono (no (by decide))

end Go.Proofs.YtknmgefpjdfenaaGreat


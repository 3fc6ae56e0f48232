/- One operation of a drawn head, and the whole head. -/
import Derived.Test.YtpdnbmnnkefedaaGreatDoorVmInv
namespace Go.Proofs.YtpdnbmnnkefedaaGreatDoor.Vm
open Go
set_option linter.unusedVariables false
set_option linter.unusedSimpArgs false

section
variable {P : Program} {call : CallFn} {glob : List Nat} {nt : Nat} {ops : Array Oper} {head : List VOper} {σ : Nat → St} {acc : Nat → List (Nat × Nat)} {hp : Nat → HpAcc} {val : Nat → V} {lim : Nat}
variable {ρ0 : Loc} {lam0 : Lam} {w0 : World} {ρ ρ' : Loc} {lam lam' : Lam} {a : Act} {w w' : World} {listed : Array Bool}

theorem lis_set {k i : Nat} (hk : k < listed.size) : lis (listed.setIfInBounds k true) i = if i = k then true else lis listed i := by
  unfold lis
  by_cases e : i = k
  · subst e; simp [hk]
  · rw [if_neg e, getD_set_ne false (fun h => e h.symm)]

/-- what stands for a row, a map, a loop's record -/
def liveB : Blk → Bool
  | .dead => false
  | _ => true
/-- of two blocks that stand for the same, one may not be written -/
theorem RelH.own_inj {ρ : Loc} {H : Hp} {w : World} (h : RelH ρ H w) {b1 b2 r o1 c1 o2 c2 : Nat} {x1 x2 : Blk} (h1 : ρ b1 = some (r, o1, c1)) (h2 : ρ b2 = some (r, o2, c2)) (hx1 : H[b1]? = some x1) (hx2 : H[b2]? = some x2)
    (l1 : liveB x1 = true) (l2 : liveB x2 = true) (ho : ownB x1 = true ∨ ownB x2 = true ∨ (spB x1 = true ∧ spB x2 = true)) : b1 = b2 := by
  have kind : ∀ {b b' o o' c c' : Nat} {cs : List V} {own : Bool} {x : Blk}, ρ b = some (r, o, c) → ρ b' = some (r, o', c') → H[b]? = some (.row cs own) → H[b']? = some x → spB x = true → False := by
    intro b b' o o' c c' cs own x e1 e2 e3 e4 e5
    obtain ⟨C, el, fz, g1, _⟩ := h.row _ _ _ _ _ _ e1 e3
    obtain ⟨ob, k1, k2⟩ := h.mp.ent _ _ _ _ _ e5 e2 e4
    rw [g1] at k1; cases k1
    exact k2.nc
  cases x1 with
  | dead => cases l1
  | row cs1 own1 =>
    cases x2 with
    | dead => cases l2
    | row cs2 own2 =>
      cases own1 with
      | true => exact h.inj _ _ _ _ _ _ _ _ _ _ h1 h2 hx1 hx2
      | false =>
        cases own2 with
        | true => exact (h.inj _ _ _ _ _ _ _ _ _ _ h2 h1 hx2 hx1).symm
        | false => rcases ho with e | e | e <;> simp [ownB, spB] at e
    | map es => exact (kind h1 h2 hx1 hx2 rfl).elim
    | loop _ _ _ => exact (kind h1 h2 hx1 hx2 rfl).elim
    | sit _ _ => exact (kind h1 h2 hx1 hx2 rfl).elim
  | map es =>
    cases x2 with
    | dead => cases l2
    | row cs2 own2 => exact (kind h2 h1 hx2 hx1 rfl).elim
    | map es => exact h.mp.inj _ _ _ _ _ _ _ _ _ rfl rfl h1 h2 hx1 hx2
    | loop _ _ _ => exact h.mp.inj _ _ _ _ _ _ _ _ _ rfl rfl h1 h2 hx1 hx2
    | sit _ _ => exact h.mp.inj _ _ _ _ _ _ _ _ _ rfl rfl h1 h2 hx1 hx2
  | loop _ _ _ =>
    cases x2 with
    | dead => cases l2
    | row cs2 own2 => exact (kind h2 h1 hx2 hx1 rfl).elim
    | map es => exact h.mp.inj _ _ _ _ _ _ _ _ _ rfl rfl h1 h2 hx1 hx2
    | loop _ _ _ => exact h.mp.inj _ _ _ _ _ _ _ _ _ rfl rfl h1 h2 hx1 hx2
    | sit _ _ => exact h.mp.inj _ _ _ _ _ _ _ _ _ rfl rfl h1 h2 hx1 hx2
  | sit _ _ =>
    cases x2 with
    | dead => cases l2
    | row cs2 own2 => exact (kind h2 h1 hx2 hx1 rfl).elim
    | map es => exact h.mp.inj _ _ _ _ _ _ _ _ _ rfl rfl h1 h2 hx1 hx2
    | loop _ _ _ => exact h.mp.inj _ _ _ _ _ _ _ _ _ rfl rfl h1 h2 hx1 hx2
    | sit _ _ => exact h.mp.inj _ _ _ _ _ _ _ _ _ rfl rfl h1 h2 hx1 hx2
/-- some blocks as they are now, the others as they were -/
theorem RelH.merge {ρ ρ' : Loc} {Ho H2 Hn : Hp} {w w' : World} {A : Nat → Prop} (h0 : RelH ρ Ho w) (h1 : RelH ρ' H2 w') (hle : ∀ b x, ρ b = some x → ρ' b = some x)
    (hA : ∀ b x, Hn[b]? = some x → liveB x = true → A b → H2[b]? = some x)
    (hB : ∀ b x, Hn[b]? = some x → liveB x = true → ¬ A b → Ho[b]? = some x ∧ ρ' b = ρ b ∧ ∀ r o c, ρ b = some (r, o, c) → w'.heap[r]? = w.heap[r]?)
    (hX : ∀ b1 b2 r o1 c1 o2 c2 x1 x2, A b1 → ¬ A b2 → Hn[b1]? = some x1 → Hn[b2]? = some x2 → liveB x1 = true → liveB x2 = true → (ownB x1 = true ∨ ownB x2 = true ∨ (spB x1 = true ∧ spB x2 = true)) → ρ' b1 = some (r, o1, c1) → ρ b2 = some (r, o2, c2) → False) :
    RelH ρ' Hn w' := by
  have hinj : ∀ b1 b2 r o1 c1 o2 c2 x1 x2, Hn[b1]? = some x1 → Hn[b2]? = some x2 → liveB x1 = true → liveB x2 = true → (ownB x1 = true ∨ ownB x2 = true ∨ (spB x1 = true ∧ spB x2 = true)) → ρ' b1 = some (r, o1, c1) → ρ' b2 = some (r, o2, c2) → b1 = b2 := by
    intro b1 b2 r o1 c1 o2 c2 x1 x2 g1 g2 l1 l2 ho e1 e2
    by_cases a1 : A b1 <;> by_cases a2 : A b2
    · exact h1.own_inj e1 e2 (hA _ _ g1 l1 a1) (hA _ _ g2 l2 a2) l1 l2 ho
    · rw [(hB _ _ g2 l2 a2).2.1] at e2
      exact (hX b1 b2 r o1 c1 o2 c2 x1 x2 a1 a2 g1 g2 l1 l2 ho e1 e2).elim
    · rw [(hB _ _ g1 l1 a1).2.1] at e1
      exact (hX b2 b1 r o2 c2 o1 c1 x2 x1 a2 a1 g2 g1 l2 l1 (by rcases ho with h | h | h <;> first | exact Or.inr (Or.inl h) | exact Or.inl h | exact Or.inr (Or.inr ⟨h.2, h.1⟩)) e2 e1).elim
    · rw [(hB _ _ g1 l1 a1).2.1] at e1
      rw [(hB _ _ g2 l2 a2).2.1] at e2
      exact h0.own_inj e1 e2 (hB _ _ g1 l1 a1).1 (hB _ _ g2 l2 a2).1 l1 l2 ho
  have lsp : ∀ {x : Blk}, spB x = true → liveB x = true := by intro x hx; cases x <;> first | rfl | cases hx
  refine ⟨h1.dom, fun b r o c cs own e1 g1 => ?_, fun b1 b2 r o1 c1 o2 c2 cs1 cs2 own2 e1 e2 g1 g2 => hinj b1 b2 r o1 c1 o2 c2 _ _ g1 g2 rfl rfl (Or.inl rfl) e1 e2, ⟨fun b r o c x hx e1 g1 => ?_, fun b1 b2 r o1 c1 o2 c2 x1 x2 hx1 hx2 e1 e2 g1 g2 => hinj b1 b2 r o1 c1 o2 c2 _ _ g1 g2 (lsp hx1) (lsp hx2) (Or.inr (Or.inr ⟨hx1, hx2⟩)) e1 e2⟩⟩
  · by_cases a1 : A b
    · exact h1.row b r o c cs own e1 (hA _ _ g1 rfl a1)
    · obtain ⟨q1, q2, q3⟩ := hB _ _ g1 rfl a1
      rw [q2] at e1
      obtain ⟨C, el, fz, k1, k2, k3, k4, k5⟩ := h0.row b r o c cs own e1 q1
      exact ⟨C, el, fz, by rw [q3 r o c e1]; exact k1, k2, k3, k4, k5.mono hle⟩
  · by_cases a1 : A b
    · exact h1.mp.ent b r o c x hx e1 (hA _ _ g1 (lsp hx) a1)
    · obtain ⟨q1, q2, q3⟩ := hB _ _ g1 (lsp hx) a1
      rw [q2] at e1
      obtain ⟨ob, k1, k2⟩ := h0.mp.ent b r o c x hx e1 q1
      exact ⟨ob, by rw [q3 r o c e1]; exact k1, k2.mono hle⟩

/-- what running operation k does to the heap -/
structure HStep (lim : Nat) (head : List VOper) (σ : Nat → St) (S S' : Nat → Bool) (ρ0 : Loc) (lam0 : Lam) (w0 : World) (k c' : Nat) (ρ : Loc) (lam : Lam) (w : World) (ρ' : Loc) (lam' : Lam) (w' : World) : Prop where
  cut : c' ≤ head.length
  cutS : ∀ i, i < head.length → hst head σ i → (S' i = true ↔ i < c')
  cutT : ∀ i, i < head.length → touches head σ i → c' ≤ i → hst head σ i
  H : RelH ρ' (HS head σ S' c') w'
  leR : ∀ b x, ρ b = some x → ρ' b = some x
  extR : ∀ b, b < (σ k).H.length ∨ (σ (k + 1)).H.length ≤ b → ρ' b = ρ b
  newR : ∀ b r o c, (σ k).H.length ≤ b → b < (σ (k + 1)).H.length → ρ' b = some (r, o, c) → w.heap.size ≤ r ∨ Open lim ρ (σ k).H r
  keep : ∀ r, r < w.heap.size → (∀ b o c, lim ≤ b → OwnAt (σ k).H b → ρ b ≠ some (r, o, c)) → (∀ i, acts head σ k i → lam i ≠ some r) → w'.heap[r]? = w.heap[r]?

/-- which heap operation k is run with, and how far down it may write -/
inductive HCase (lim : Nat) (head : List VOper) (σ : Nat → St) (S : Nat → Bool) (k c : Nat) : Hp → Hp → Nat → Prop
  | free : ¬ touches head σ k → HCase lim head σ S k c (HS head σ S c) (HS head σ S c) (HS head σ S c).length
  | look : touches head σ k → ¬ hst head σ k → ¬ apps head σ k → k < c → (∀ i, i < c → ¬ hst head σ i) → HCase lim head σ S k c (σ k).H (σ (k + 1)).H (σ k).H.length
  | app : apps head σ k → k < c → (∀ i, i < c → ¬ hst head σ i) → (∀ i, i < k → touches head σ i → S i = true) → HCase lim head σ S k c (σ k).H (σ (k + 1)).H lim
  | store : hst head σ k → c ≤ k → (σ k).H = HS head σ S c → (∀ i, i < k → touches head σ i → S i = true) → HCase lim head σ S k c (σ k).H (σ (k + 1)).H lim

section
variable {S : Nat → Bool} {c : Nat}
theorem pend_uniq (hc : CallExt call) (R : Run call lim head σ acc hp val) (hcm : c ≤ head.length) (hno : ∀ i, i < c → ¬ hst head σ i) {i j b : Nat} (hi : i < c) (hj : j < c) (h1 : kills σ i b) (h2 : kills σ j b) : i = j := by
  rcases Nat.lt_trichotomy i j with h | h | h
  · exact absurd (run_dead hc R (i := i + 1) (j := j) (by omega) (by omega) (fun k _ h => hno k (by omega)) h1.2.2) h2.2.1
  · exact h
  · exact absurd (run_dead hc R (i := j + 1) (j := i) (by omega) (by omega) (fun k _ h => hno k (by omega)) h2.2.2) h1.2.1
theorem HS_pend (hc : CallExt call) (R : Run call lim head σ acc hp val) (hcm : c ≤ head.length) (hno : ∀ i, i < c → ¬ hst head σ i) {i b : Nat} (h : pend head σ S c b i) : (HS head σ S c)[b]? = (σ i).H[b]? := by
  have hlt := h.2.2.2.1
  have hle := run_Hle hc R (i := i) (j := c) (Nat.le_of_lt h.1) hcm
  have hb : b < (σ c).H.length := by omega
  have hex : ∃ i, pend head σ S c b i := ⟨i, h⟩
  have hch := Classical.choose_spec hex
  have e : Classical.choose hex = i := pend_uniq hc R hcm hno hch.1 h.1 hch.2.2.2 h.2.2.2
  unfold HS
  rw [List.getElem?_map, List.getElem?_range hb]
  simp only [Option.map_some, dif_pos hex]
  rw [e, List.getD_eq_getElem?_getD, List.getElem?_eq_getElem hlt, Option.getD_some]
/-- what was there before an operation that is to come -/
theorem HS_pre (hc : CallExt call) (R : Run call lim head σ acc hp val) (G : RegOk P glob nt ops head) (inv : HeadInv .any ops head.length listed) (hcm : c ≤ head.length) (hno : ∀ i, i < c → ¬ hst head σ i) {k : Nat} (hkc : k < c) (hun : lis listed k = false) (ht : touches head σ k) {b : Nat} (hb : b < (σ k).H.length) :
    (HS head σ (lis listed) c)[b]? = (σ k).H[b]? ∨ (σ k).H[b]? = some .dead := by
  by_cases hp : ∃ i, pend head σ (lis listed) c b i
  · obtain ⟨i, hi⟩ := hp
    rw [HS_pend hc R hcm hno hi]
    by_cases hik : i < k
    · exact Or.inr (run_dead hc R (i := i + 1) (j := k) (by omega) (by omega) (fun k _ h => hno k (by omega)) hi.2.2.2.2.2)
    · rcases run_kill hc R (i := k) (j := i) (by omega) (by have := hi.1; omega) (fun k _ h => hno k (by have := hi.1; omega)) b hb with e | e
      · exact Or.inl e
      · exact absurd e.1 hi.2.2.2.2.1
  · rw [HS_no fun i hi => hp ⟨i, hi⟩]
    rcases run_kill hc R (i := k) (j := c) (by omega) hcm (fun k _ h => hno k h) b hb with e | ⟨e, j, j1, j2, j3, j4⟩
    · exact Or.inl e
    · by_cases ejk : j = k
      · subst ejk; exact absurd ⟨j, j2, j3, hun, j4⟩ hp
      · exact absurd ⟨j, j2, j3, late_wt inv hun (app_wait R G (by omega) (by omega) ht j3), j4⟩ hp
/-- what an operation that is to come makes -/
theorem HS_post (hc : CallExt call) (R : Run call lim head σ acc hp val) (G : RegOk P glob nt ops head) (inv : HeadInv .any ops head.length listed) (hcm : c ≤ head.length) (hno : ∀ i, i < c → ¬ hst head σ i) {k : Nat} (hkc : k < c) (hun : lis listed k = false) (ht : touches head σ k) {b : Nat} (hb0 : (σ k).H.length ≤ b) (hb : b < (σ (k + 1)).H.length) :
    (HS head σ (lis listed) c)[b]? = (σ (k + 1)).H[b]? := by
  by_cases hp : ∃ i, pend head σ (lis listed) c b i
  · obtain ⟨i, hi⟩ := hp
    rw [HS_pend hc R hcm hno hi]
    have hlt := hi.2.2.2.1
    have hik : k < i := by
      rcases Nat.lt_or_ge k i with h | h
      · exact h
      · have := run_Hle hc R (i := i) (j := k) h (by omega); omega
    rcases run_kill hc R (i := k + 1) (j := i) (by omega) (by have := hi.1; omega) (fun k _ h => hno k (by have := hi.1; omega)) b hb with e | e
    · exact e
    · exact absurd e.1 hi.2.2.2.2.1
  · rw [HS_no fun i hi => hp ⟨i, hi⟩]
    rcases run_kill hc R (i := k + 1) (j := c) (by omega) hcm (fun k _ h => hno k h) b hb with e | ⟨e, j, j1, j2, j3, j4⟩
    · exact e
    · exact absurd ⟨j, j2, j3, late_wt inv hun (app_wait R G (by omega) (by omega) ht j3), j4⟩ hp
/-- before an append everything is as the text says -/
theorem HS_app (hc : CallExt call) (R : Run call lim head σ acc hp val) (G : RegOk P glob nt ops head) (inv : HeadInv .any ops head.length listed) (hcm : c ≤ head.length) (hno : ∀ i, i < c → ¬ hst head σ i) {k : Nat} (hkc : k < c) (hun : lis listed k = false) (ha : apps head σ k) (hS : ∀ i, i < k → touches head σ i → lis listed i = true) {b : Nat} (hb : b < (σ k).H.length) :
    (HS head σ (lis listed) c)[b]? = (σ k).H[b]? := by
  rcases HS_pre hc R G inv hcm hno hkc hun (apps_touches ha) hb with e | e
  · exact e
  · have hnp : ∀ i, ¬ pend head σ (lis listed) c b i := by
      intro i hi
      by_cases hik : i < k
      · have := hS i hik (apps_touches hi.2.1)
        rw [hi.2.2.1] at this; cases this
      · exact absurd (run_dead hc R (i := k) (j := i) (by omega) (by have := hi.1; omega) (fun k _ h => hno k (by have := hi.1; omega)) e) hi.2.2.2.2.1
    rw [HS_no hnp, e]
    exact run_dead hc R (i := k) (j := c) (by omega) hcm (fun k _ h => hno k h) e
/-- behind it -/
theorem HS_done (hc : CallExt call) (R : Run call lim head σ acc hp val) (hcm : c ≤ head.length) (hno : ∀ i, i < c → ¬ hst head σ i) {S' : Nat → Bool} {k : Nat} (hkc : k < c) (hset : ∀ i, S' i = if i = k then true else S i) {b : Nat} :
    (kills σ k b → (HS head σ S' c)[b]? = some .dead) ∧ (¬ kills σ k b → (HS head σ S' c)[b]? = (HS head σ S c)[b]?) := by
  constructor
  · intro hk
    rw [HS_no fun i hi => ?_]
    · exact run_dead hc R (i := k + 1) (j := c) (by omega) hcm (fun k _ h => hno k h) hk.2.2
    · have e := pend_uniq hc R hcm hno hi.1 hkc hi.2.2.2 hk
      have := hi.2.2.1
      rw [hset, if_pos e] at this; cases this
  · intro hk
    have iff : ∀ i, pend head σ S' c b i ↔ pend head σ S c b i := by
      intro i
      constructor
      · rintro ⟨h1, h2, h3, h4⟩
        have : i ≠ k := fun e => hk (by rw [← e]; exact h4)
        rw [hset, if_neg this] at h3
        exact ⟨h1, h2, h3, h4⟩
      · rintro ⟨h1, h2, h3, h4⟩
        have : i ≠ k := fun e => hk (by rw [← e]; exact h4)
        exact ⟨h1, h2, by rw [hset, if_neg this]; exact h3, h4⟩
    by_cases hp : ∃ i, pend head σ S c b i
    · obtain ⟨i, hi⟩ := hp
      rw [HS_pend hc R hcm hno hi, HS_pend hc R hcm hno ((iff i).2 hi)]
    · rw [HS_no fun i hi => hp ⟨i, hi⟩, HS_no fun i hi => hp ⟨i, (iff i).1 hi⟩]
end

theorem hcase_of (hc : CallExt call) (R : Run call lim head σ acc hp val) (G : RegOk P glob nt ops head) (inv : HeadInv .any ops head.length listed) {c : Nat}
    (I : Inv lim head σ val ρ0 lam0 w0 (lis listed) c ρ lam a w) {k : Nat} (hkm : k < head.length) (hk : k ∈ Region.ready .any ops listed) :
    ∃ H1 H2 l, HCase lim head σ (lis listed) k c H1 H2 l ∧ RelH ρ H1 w ∧ FreeR ρ H1.length H2.length ∧ ∀ vo, head[k]? = some vo → evVal call l vo ⟨(σ k).fr, (σ k).L, H1⟩ = some (val k, (σ (k + 1)).L, H2) := by
  have hun := ready_un hk
  by_cases ht : touches head σ k
  · by_cases hs : hst head σ k
    · have hck : c ≤ k := by
        have := I.cutS k hkm hs
        rw [hun] at this
        simp at this; exact this
      have hS : ∀ i, i < k → touches head σ i → lis listed i = true := fun i hi hti => ready_wt inv hk (touch_wait R G hi hkm hti hs)
      have hH : (σ k).H = (σ c).H := by
        refine run_same R hck (by omega) fun j h1 h2 htj => ?_
        have hsj := I.cutT j (by omega) htj h1
        have := (I.cutS j (by omega) hsj).1 (hS j h2 htj)
        omega
      have hH' : (σ k).H = HS head σ (lis listed) c := by
        rw [hH]
        refine List.ext_getElem? fun b => (HS_no fun i hi => ?_).symm
        have := hS i (by have := hi.1; omega) (apps_touches hi.2.1)
        rw [hi.2.2.1] at this; cases this
      refine ⟨_, _, _, .store hs hck hH' hS, by rw [hH']; exact I.H, I.freeR k hkm hun, fun vo hvo => ?_⟩
      obtain ⟨vo', g1, _, g3⟩ := hs
      rw [hvo] at g1; cases g1
      have := (R.step k vo hvo).1
      rw [headLim_hst g3] at this
      exact this
    · have hkc : k < c := by
        rcases Nat.lt_or_ge k c with h | h
        · exact h
        · exact absurd (I.cutT k hkm ht h) hs
      have hno : ∀ i, i < c → ¬ hst head σ i := by
        intro i hic hsi
        have hcm := I.cut
        have hSi := (I.cutS i (by omega) hsi).2 hic
        rcases Nat.lt_trichotomy i k with h | h | h
        · exact hs (touch_last R h hkm hsi ht)
        · subst h; exact hs hsi
        · rw [late_wt inv hun (touch_wait R G h (by omega) ht hsi)] at hSi; cases hSi
      have hrel : RelH ρ (σ k).H w := by
        have pre : ∀ (b : Nat) (x : Blk), (σ k).H[b]? = some x → liveB x = true → (HS head σ (lis listed) c)[b]? = some x := by
          intro b x hx hl
          rcases HS_pre hc R G inv I.cut hno hkc hun ht (List.getElem?_eq_some_iff.1 hx).1 with e | e
          · rw [e]; exact hx
          · rw [hx] at e; cases e; cases hl
        exact I.H.merge (A := fun _ => True) I.H (fun _ _ h => h) (fun b x hx hl _ => pre b x hx hl) (fun b x _ _ h => absurd trivial h) (fun _ _ _ _ _ _ _ _ _ _ h => absurd trivial h)
      by_cases ha : apps head σ k
      · have hS : ∀ i, i < k → touches head σ i → lis listed i = true := fun i hi hti => ready_wt inv hk (app_wait R G hi hkm hti ha)
        refine ⟨_, _, _, .app ha hkc hno hS, hrel, I.freeR k hkm hun, fun vo hvo => ?_⟩
        obtain ⟨vo', g1, _, g3⟩ := ha
        rw [hvo] at g1; cases g1
        have := (R.step k vo hvo).1
        rw [headLim_app g3] at this
        exact this
      · refine ⟨_, _, _, .look ht hs ha hkc hno, hrel, I.freeR k hkm hun, fun vo hvo => ?_⟩
        have := (R.step k vo hvo).1
        obtain ⟨vo', g1, g2, _⟩ := ht
        rw [hvo] at g1; cases g1
        have hh : hstore (σ k).fr vo.op = false := by
          cases hq : hstore (σ k).fr vo.op with
          | false => rfl
          | true => exact absurd ⟨vo, hvo, g2, hq⟩ hs
        have hh2 : happ vo.op = false := by
          cases hq : happ vo.op with
          | false => rfl
          | true => exact absurd ⟨vo, hvo, g2, hq⟩ ha
        rw [headLim_not hh hh2] at this
        exact this
  · exact ⟨_, _, _, .free ht, I.H, fun b h1 h2 => absurd h2 (by omega), fun vo hvo => run_free_at R hvo ht⟩

theorem hstep_of (hc : CallExt call) (R : Run call lim head σ acc hp val) (G : RegOk P glob nt ops head) (inv : HeadInv .any ops head.length listed) {c : Nat}
    (I : Inv lim head σ val ρ0 lam0 w0 (lis listed) c ρ lam a w) {k : Nat} (hkm : k < head.length) (hk : k ∈ Region.ready .any ops listed) (hset : ∀ i, lis (listed.setIfInBounds k true) i = if i = k then true else lis listed i)
    {H1 H2 : Hp} {l : Nat} (hcase : HCase lim head σ (lis listed) k c H1 H2 l) (g : Grow l (acts head σ k) ρ lam (σ k).L H1 w ρ' lam' (σ (k + 1)).L H2 w') (r1 : RelH ρ' H2 w') :
    ∃ c', HStep lim head σ (lis listed) (lis (listed.setIfInBounds k true)) ρ0 lam0 w0 k c' ρ lam w ρ' lam' w' := by
  have hun := ready_un hk
  have hcm := I.cut
  have memk : ∀ r b o c', ρ b = some (r, o, c') → ∀ i, acts head σ k i → lam i ≠ some r := fun r b o c' hb i _ hi => I.disj i r b o c' hi hb
  cases hcase with
  | free ht =>
    have hH := run_free R hkm ht
    have hx : ∀ b, ρ' b = ρ b := fun b => g.extR b (by omega)
    have hHS : HS head σ (lis (listed.setIfInBounds k true)) c = HS head σ (lis listed) c := HS_congr fun i _ ha => by
      have : i ≠ k := fun e => ht (by rw [← e]; exact apps_touches ha)
      rw [hset, if_neg this]
    refine ⟨c, I.cut, fun i hi hs => ?_, I.cutT, by rw [hHS]; exact r1, fun b x h => by rw [hx]; exact h, fun b _ => hx b, fun b r o c' h1 h2 => ?_, fun r hr _ ht' => g.keep r hr noOpen ht'⟩
    · have : i ≠ k := fun e => ht (by rw [← e]; exact hst_touches hs)
      rw [hset, if_neg this]; exact I.cutS i hi hs
    · rw [hH] at h2; omega
  | look ht hs ha hkc hno =>
    have fR := I.freeR k hkm hun
    have leR := g.leR fR
    have hHk := g.lenH
    have newRk : ∀ b r o c, (σ k).H.length ≤ b → b < (σ (k + 1)).H.length → ρ' b = some (r, o, c) → w.heap.size ≤ r := fun b r o c h1 h2 h3 => (g.newR b r o c h1 h2 h3).resolve_right noOpen
    have keepO : ∀ r, r < w.heap.size → (∀ i, acts head σ k i → lam i ≠ some r) → w'.heap[r]? = w.heap[r]? := fun r hr ht => g.keep r hr noOpen ht
    have hHS : HS head σ (lis (listed.setIfInBounds k true)) c = HS head σ (lis listed) c := HS_congr fun i _ hai => by
      have : i ≠ k := fun e => ha (by rw [← e]; exact hai)
      rw [hset, if_neg this]
    refine ⟨c, I.cut, fun i hi hsi => ?_, I.cutT, ?_, leR, g.extR, fun b r o c h1 h2 h3 => Or.inl (newRk b r o c h1 h2 h3), fun r hr _ ht' => keepO r hr ht'⟩
    · have : i ≠ k := fun e => hs (by rw [← e]; exact hsi)
      rw [hset, if_neg this]; exact I.cutS i hi hsi
    · rw [hHS]
      refine I.H.merge (A := fun b => (σ k).H.length ≤ b ∧ b < (σ (k + 1)).H.length) r1 leR (fun b x hx hl hA => ?_) (fun b x hx hl hA => ⟨hx, g.extR b (by omega), fun r o c h => keepO r (I.H.dom b r o c h) (memk r b o c h)⟩) (fun b1 b2 r o1 c1 o2 c2 x1 x2 a1 a2 _ _ _ _ _ e1 e2 => ?_)
      · rw [← HS_post hc R G inv hcm hno hkc hun ht hA.1 hA.2]; exact hx
      · have := newRk b1 r o1 c1 a1.1 a1.2 e1
        have := I.H.dom b2 r o2 c2 e2
        omega
  | app ha hkc hno hS =>
    have fR := I.freeR k hkm hun
    have leR := g.leR fR
    have hHk := g.lenH
    have hdone := fun b => HS_done (b := b) (S := lis listed) hc R hcm hno hkc hset
    have happ' := fun (b : Nat) (hb : b < (σ k).H.length) => HS_app hc R G inv hcm hno hkc hun ha hS hb
    have step := run_app R ha
    have old : ∀ (b : Nat) (x : Blk), (HS head σ (lis (listed.setIfInBounds k true)) c)[b]? = some x → liveB x = true → ¬ kills σ k b ∧ (HS head σ (lis listed) c)[b]? = some x := by
      intro b x hx hl
      by_cases hk' : kills σ k b
      · rw [(hdone b).1 hk'] at hx; cases hx; cases hl
      · exact ⟨hk', by rw [← (hdone b).2 hk']; exact hx⟩
    have opn : ∀ {b2 r o2 c2 : Nat} {x2 : Blk}, (HS head σ (lis listed) c)[b2]? = some x2 → liveB x2 = true → (σ (k + 1)).H.length ≤ b2 → ρ b2 = some (r, o2, c2) → ¬ Open lim ρ (σ k).H r := by
      rintro b2 r o2 c2 x2 hx2 hl hb2 e2 ⟨b0, o0, c0, h1, ⟨x0, h2, h3⟩, h4⟩
      have hb0 := (List.getElem?_eq_some_iff.1 h2).1
      have : b0 = b2 := I.H.own_inj h4 e2 (by rw [happ' b0 hb0]; exact h2) hx2 (by cases x0 <;> first | rfl | cases h3) hl (Or.inl h3)
      omega
    refine ⟨c, I.cut, fun i hi hsi => ?_, I.cutT, ?_, leR, g.extR, g.newR, fun r hr hno' ht' => g.keep r hr (fun ⟨b, o, c', h1, h2, h3⟩ => hno' b o c' h1 h2 h3) ht'⟩
    · have : i ≠ k := fun e => apps_hst ha (by rw [← e]; exact hsi)
      rw [hset, if_neg this]; exact I.cutS i hi hsi
    · refine I.H.merge (A := fun b => b < (σ (k + 1)).H.length) r1 leR (fun b x hx hl hA => ?_) (fun b x hx hl hA => ?_) (fun b1 b2 r o1 c1 o2 c2 x1 x2 a1 a2 g1 g2 l1 l2 ho e1 e2 => ?_)
      · obtain ⟨q1, q2⟩ := old b x hx hl
        by_cases hb : b < (σ k).H.length
        · rw [happ' b hb] at q2
          rcases step.2 b hb with e | e
          · rw [e]; exact q2
          · exact absurd ⟨hb, (fun h => by rw [q2] at h; cases h; cases hl), e⟩ q1
        · rw [← HS_post hc R G inv hcm hno hkc hun (apps_touches ha) (by omega) hA]; exact q2
      · obtain ⟨q1, q2⟩ := old b x hx hl
        have hA' : (σ (k + 1)).H.length ≤ b := by omega
        exact ⟨q2, g.extR b (Or.inr hA'), fun r o c h => g.keep r (I.H.dom b r o c h) (opn q2 hl hA' h) (memk r b o c h)⟩
      · obtain ⟨p1, p2⟩ := old b1 x1 g1 l1
        obtain ⟨q1, q2⟩ := old b2 x2 g2 l2
        have a2' : (σ (k + 1)).H.length ≤ b2 := by omega
        have a1' : b1 < (σ (k + 1)).H.length := a1
        by_cases hb : b1 < (σ k).H.length
        · rw [g.extR b1 (Or.inl hb)] at e1
          have := I.H.own_inj e1 e2 p2 q2 l1 l2 ho
          omega
        · rcases g.newR b1 r o1 c1 (by omega) a1' e1 with h | h
          · have := I.H.dom b2 r o2 c2 e2
            omega
          · exact opn q2 l2 a2' e2 h
  | store hs hck hH hS =>
    have hlen := (run_hst R hs).1
    have hHS : HS head σ (lis (listed.setIfInBounds k true)) (k + 1) = (σ (k + 1)).H := by
      refine List.ext_getElem? fun b => HS_no fun i hi => ?_
      have h1 := hi.2.2.1
      by_cases e : i = k
      · rw [hset, if_pos e] at h1; cases h1
      · rw [hset, if_neg e, hS i (by have := hi.1; omega) (apps_touches hi.2.1)] at h1; cases h1
    refine ⟨k + 1, by omega, fun i hi hsi => ?_, fun i hi hti h => I.cutT i hi hti (by omega), by rw [hHS]; exact r1, fun b x h => ?_, g.extR, fun b r o c' h1 h2 => absurd h2 (by omega), fun r hr hno ht' => g.keep r hr (fun ⟨b, o, c', h1, h2, h3⟩ => hno b o c' h1 h2 h3) ht'⟩
    · rw [hset]
      rcases Nat.lt_trichotomy i k with h | h | h
      · rw [if_neg (by omega), hS i h (hst_touches hsi)]; simp; omega
      · rw [if_pos h]; simp; omega
      · rw [if_neg (by omega), I.cutS i hi hsi]; omega
    · rw [g.extR b (by omega)]; exact h

/-- one more is done -/
theorem inv_step (hc : CallExt call) (R : Run call lim head σ acc hp val) (G : RegOk P glob nt ops head) (hx : Lex ops) (inv : HeadInv .any ops head.length listed) {c : Nat}
    (I : Inv lim head σ val ρ0 lam0 w0 (lis listed) c ρ lam a w) {k : Nat} (hkm : k < head.length) (hk : k ∈ Region.ready .any ops listed) {o : Oper} {vo : VOper} (ho : ops[k]? = some o) (hvo : head[k]? = some vo)
    (hsl : slimOp P glob o = some vo.op) (hdst : vo.dst = o.dst) (hd : ∀ d, o.dst = some d → d < a.tmps.size)
    (hg : (match o.guard with | none => vo.guard = none | some (j, want) => ∃ s, (ops[j]?).bind (·.dst) = some s ∧ vo.guard = some (s, want)))
    {x : Value} (hv : FV ρ' lam' (val k) x) {H1 H2 : Hp} {l : Nat} (hcase : HCase lim head σ (lis listed) k c H1 H2 l) (g : Grow l (acts head σ k) ρ lam (σ k).L H1 w ρ' lam' (σ (k + 1)).L H2 w') (r1 : RelH ρ' H2 w')
    (r2 : RelL (fun i => acts head σ k i ∨ (σ k).L.length ≤ i) ρ' lam' (σ (k + 1)).L w') :
    ∃ c', Inv lim head σ val ρ0 lam0 w0 (lis (listed.setIfInBounds k true)) c' ρ' lam' (a.put o.dst x) w' := by
  have hun := ready_un hk
  have hklt : k < listed.size := by rw [inv.size]; exact (Array.getElem?_eq_some_iff.1 ho).1
  have hset : ∀ i, lis (listed.setIfInBounds k true) i = if i = k then true else lis listed i := fun i => lis_set hklt
  have hne : ∀ i, i ≠ k → lis (listed.setIfInBounds k true) i = lis listed i := fun i h => by rw [hset, if_neg h]
  have hself : lis (listed.setIfInBounds k true) k = true := by rw [hset, if_pos rfl]
  obtain ⟨c', h⟩ := hstep_of (hp := hp) hc R G inv I hkm hk hset hcase g r1
  refine ⟨c', ?_⟩
  have fL := I.freeL k hkm hun
  have leR := h.leR
  have leL := g.leL fL
  have hK1 := run_Hle hc R (i := k) (j := head.length) (by omega) (Nat.le_refl _)
  have hJ1 := run_Hle hc R (i := k + 1) (j := head.length) (by omega) (Nat.le_refl _)
  have hZ1 := run_Hle hc R (i := 0) (j := k) (by omega) (by omega)
  have hHk := run_Hle hc R (i := k) (j := k + 1) (by omega) (by omega)
  have hLk := g.lenL
  have hLm := run_L hc R (i := k + 1) (j := head.length) (by omega) (Nat.le_refl _)
  have hL0 := run_L hc R (i := 0) (j := k) (by omega) (by omega)
  have keepL : ∀ id r, lam id = some r → (∀ i, acts head σ k i → lam i ≠ some r) → w'.heap[r]? = w.heap[r]? := fun id r hl ht => h.keep r (I.dom id r hl) (fun b o c _ _ hb => I.disj id r b o c hl hb) ht
  have memk : ∀ {id}, acts head σ k id → ∃ r, lam id = some r := by
    intro id ⟨vo', h1, h2, h3⟩
    rw [hvo] at h1; cases h1
    refine memId_lam (P := P) (glob := glob) (ρ := ρ) (fr := lw (σ 0).fr (dstAt head) val (lis listed) head.length) (a := a) hsl I.fr ?_
    rw [(evVal_congr (call := call) (lim := 0) (L := []) (H := []) (vo := vo) (fun t ht => fr_ready R G hx inv hkm hk ho t ((slot_looks hsl hg).1 t ht)) (fun s want hs => fr_ready R G hx inv hkm hk ho s ((slot_looks hsl hg).2 s want hs))).2.2.1]
    exact h3
  refine ⟨?_, h.H, h.cut, h.cutS, h.cutT, r2.dom, r2.inj, r2.disj, ?_, ?_, ?_, ?_, g.os.trans I.os, g.tape.trans I.tape, g.output.trans I.output, Nat.le_trans I.size g.size, ?_, ?_, ?_, ?_, ?_⟩
  · -- the frame
    have e : lw (σ 0).fr (dstAt head) val (lis (listed.setIfInBounds k true)) head.length = putD (lw (σ 0).fr (dstAt head) val (lis listed) head.length) o.dst (val k) := by
      funext t
      rw [lw_put (S := lis listed) hkm hself hne (fun i h1 h2 hs t hdk hdi => ?_), dstAt_of hvo, hdst]
      obtain ⟨oi, g1, _, g3, _⟩ := G.get i head[i] (List.getElem?_eq_getElem h2)
      rw [dstAt_of (List.getElem?_eq_getElem h2), g3] at hdi
      rw [dstAt_of hvo, hdst] at hdk
      rcases hx.pair k i o oi h1 ho g1 with h4 | h4
      · rw [late_un inv hun h4] at hs; cases hs
      · exact (Oper.apart_spec h4).2.1 t hdk hdi
    rw [e]
    exact (I.fr.mono leR leL).put hv hd
  · -- the activation's variables
    intro id r cs hr hcs
    rw [mw_put (S := lis listed) hkm hself hne (fun hw i h1 h2 hs => ?_)] at hcs
    · split at hcs
      · rename_i hw
        refine r2.row id r cs ?_ hr hcs
        rcases wrt_iff.1 hw with h | h
        · exact Or.inl (stores_acts h)
        · exact Or.inr h.1
      · rename_i hw
        have hnw : ¬ (stores head σ k id ∨ ((σ k).L.length ≤ id ∧ id < (σ (k + 1)).L.length)) := fun h => hw (wrt_iff.2 h)
        have hl : lam id = some r := by
          rw [← g.extL id (by
            by_cases h : id < (σ k).L.length
            · exact Or.inl h
            · exact Or.inr (by
                by_cases h2 : id < (σ (k + 1)).L.length
                · exact absurd (Or.inr ⟨by omega, h2⟩) hnw
                · omega))]; exact hr
        by_cases hact : acts head σ k id
        · rw [mw_ready hc R G inv I hkm hk hact hl] at hcs
          refine r2.row id r cs (Or.inl hact) hr ?_
          obtain ⟨_, _, e3⟩ := run_ext hc R hkm
          rw [e3 id (acts_lt R hact) (fun h => hnw (Or.inl h))]; exact hcs
        · refine ((I.row id r cs hl hcs).mono leR).keep (keepL id r hl fun i hi hlr => ?_)
          exact hact (by rw [← I.inj i id r hlr hl]; exact hi)
    · cases hwi : wrt head σ i id with
      | false => rfl
      | true =>
        exfalso
        have hLi := run_L hc R (i := k + 1) (j := i) (by omega) (by omega)
        rcases wrt_iff.1 hwi with hsi | ⟨g1, g2⟩
        · rcases wrt_iff.1 hw with hsk | ⟨g1, g2⟩
          · have := late_wt inv hun (conflict R G h1 h2 (stores_acts hsk) (stores_acts hsi) (Or.inl hsk))
            rw [hs] at this; cases this
          · obtain ⟨r', hr'⟩ := I.acc i id h2 hs (stores_acts hsi)
            have := fL id g1 g2
            rw [this] at hr'; cases hr'
        · rcases wrt_iff.1 hw with hsk | ⟨k1, k2⟩
          · have := acts_lt R (stores_acts hsk)
            omega
          · omega
  · intro i him hl b h1 h2
    by_cases e : i = k
    · subst e; rw [hself] at hl; cases hl
    · rw [hne i e] at hl
      rw [h.extR b ?_]
      · exact I.freeR i him hl b h1 h2
      · by_cases hlt : i < k
        · have := run_Hle hc R (i := i + 1) (j := k) (by omega) (by omega); omega
        · have := run_Hle hc R (i := k + 1) (j := i) (by omega) (by omega); omega
  · intro i him hl b h1 h2
    by_cases e : i = k
    · subst e; rw [hself] at hl; cases hl
    · rw [hne i e] at hl
      rw [g.extL b ?_]
      · exact I.freeL i him hl b h1 h2
      · by_cases hlt : i < k
        · have := run_L hc R (i := i + 1) (j := k) (by omega) (by omega); omega
        · have := run_L hc R (i := k + 1) (j := i) (by omega) (by omega); omega
  · intro i id him hl hact
    by_cases e : i = k
    · subst e
      obtain ⟨r, hr⟩ := memk hact
      exact ⟨r, leL _ _ hr⟩
    · rw [hne i e] at hl
      obtain ⟨r, hr⟩ := I.acc i id him hl hact
      exact ⟨r, leL _ _ hr⟩
  · intro b hb
    rw [h.extR b (by omega)]; exact I.extR b hb
  · intro i hi
    rw [g.extL i (by omega)]; exact I.extL i hi
  · intro b r o c h1 h2 hb
    by_cases n : (σ k).H.length ≤ b ∧ b < (σ (k + 1)).H.length
    · rcases h.newR b r o c n.1 n.2 hb with q | ⟨b0, o0, c0, q1, q2, q3⟩
      · exact Or.inl (Nat.le_trans I.size q)
      · have hbk : b0 < (σ k).H.length := by obtain ⟨cs, hcs⟩ := q2; exact (List.getElem?_eq_some_iff.1 hcs.1).1
        by_cases hb0 : b0 < (σ 0).H.length
        · exact Or.inr ⟨b0, o0, c0, q1, run_own hc R (Nat.zero_le k) (by omega) b0 hb0 q2, by rw [← I.extR b0 (Or.inl hb0)]; exact q3⟩
        · exact I.newR b0 r o0 c0 (by omega) (by omega) q3
    · rw [h.extR b (by omega)] at hb
      exact I.newR b r o c h1 h2 hb
  · intro i r h1 h2 hi
    by_cases n : (σ k).L.length ≤ i ∧ i < (σ (k + 1)).L.length
    · exact Nat.le_trans I.size (g.newL i r n.1 n.2 hi)
    · rw [g.extL i (by omega)] at hi
      exact I.newL i r h1 h2 hi
  · intro r hr ho hno
    rw [← I.keep r hr ho hno]
    refine h.keep r (Nat.lt_of_lt_of_le hr I.size) (fun b o c hl hown hb => ?_) fun i _ hi => ?_
    · have hbk : b < (σ k).H.length := by obtain ⟨cs, hcs⟩ := hown; exact (List.getElem?_eq_some_iff.1 hcs.1).1
      by_cases hb0 : b < (σ 0).H.length
      · exact ho ⟨b, o, c, hl, run_own hc R (Nat.zero_le k) (by omega) b hb0 hown, by rw [← I.extR b (Or.inl hb0)]; exact hb⟩
      · rcases I.newR b r o c (by omega) (by omega) hb with q | q
        · omega
        · exact ho q
    · by_cases h1 : i < (σ 0).L.length ∨ (σ head.length).L.length ≤ i
      · rw [I.extL i h1] at hi; exact hno i hi
      · have := I.newL i r (by omega) (by omega) hi; omega

theorem first_of (p : Nat → Prop) : ∀ (m : Nat), ∃ c, c ≤ m ∧ (∀ k, k < c → ¬ p k) ∧ (c < m → p c)
  | 0 => ⟨0, Nat.le_refl _, fun k h => absurd h (by omega), fun h => absurd h (by omega)⟩
  | m + 1 => by
    obtain ⟨c, h1, h2, h3⟩ := first_of p m
    by_cases e : c < m
    · exact ⟨c, by omega, h2, fun _ => h3 e⟩
    · have : c = m := by omega
      subst this
      by_cases hp : p c
      · exact ⟨c, by omega, h2, fun _ => hp⟩
      · refine ⟨c + 1, Nat.le_refl _, fun k hk => ?_, fun h => absurd h (by omega)⟩
        by_cases e' : k = c
        · subst e'; exact hp
        · exact h2 k (by omega)

/-- what holds at the start -/
theorem inv_start (hc : CallExt call) (R : Run call lim head σ acc hp val) {s : St} (h0 : σ 0 = s) (hst0 : Stands ρ0 lam0 s a w) (hfR : FreeR ρ0 s.H.length (σ head.length).H.length) (hfL : FreeL lam0 s.L.length (σ head.length).L.length) {S : Nat → Bool}
    (hS : ∀ i, S i = false) : ∃ c, Inv lim head σ val ρ0 lam0 w S c ρ0 lam0 a w := by
  have hlw : ∀ m, lw (σ 0).fr (dstAt head) val S m = (σ 0).fr := by
    intro m
    induction m with
    | zero => rfl
    | succ m ih => simp [lw, hS, ih]
  have hmw : ∀ m id, mw (fun i => (σ i).L) (wrt head σ) S m id = (σ 0).L[id]? := by
    intro m id
    induction m with
    | zero => rfl
    | succ m ih => simp [mw, hS, ih]
  obtain ⟨c, hcm, hno, hfst⟩ := first_of (hst head σ) head.length
  have hH1 := run_Hle hc R (i := 0) (j := c) (by omega) hcm
  have hH2 : ∀ b, b < (σ 0).H.length → (HS head σ S c)[b]? = (σ 0).H[b]? := by
    intro b hb
    by_cases hp : ∃ i, pend head σ S c b i
    · obtain ⟨i, hi⟩ := hp
      rw [HS_pend hc R hcm hno hi]
      rcases run_kill hc R (i := 0) (j := i) (by omega) (by have := hi.1; omega) (fun k _ h => hno k (by have := hi.1; omega)) b hb with e | e
      · exact e
      · exact absurd e.1 hi.2.2.2.2.1
    · rw [HS_no fun i hi => hp ⟨i, hi⟩]
      rcases run_kill hc R (i := 0) (j := c) (by omega) hcm (fun k _ h => hno k h) b hb with e | ⟨e, j, j1, j2, j3, j4⟩
      · exact e
      · exact absurd ⟨j, j2, j3, hS j, j4⟩ hp
  have hH3 := run_Hle hc R (i := c) (j := head.length) hcm (Nat.le_refl _)
  subst h0
  have lt : ∀ b r o c' cs own, ρ0 b = some (r, o, c') → (HS head σ S c)[b]? = some (Blk.row cs own) → b < (σ 0).H.length := by
    intro b r o c' cs own hb hrow
    by_cases h : b < (σ 0).H.length
    · exact h
    · have hlt := (List.getElem?_eq_some_iff.1 hrow).1
      rw [HS_len] at hlt
      rw [hfR b (by omega) (by omega)] at hb; cases hb
  have ltM : ∀ (b r o c' : Nat) (es : Blk), ρ0 b = some (r, o, c') → (HS head σ S c)[b]? = some es → b < (σ 0).H.length := by
    intro b r o c' es hb hrow
    by_cases h : b < (σ 0).H.length
    · exact h
    · have hlt := (List.getElem?_eq_some_iff.1 hrow).1
      rw [HS_len] at hlt
      rw [hfR b (by omega) (by omega)] at hb; cases hb
  refine ⟨c, by rw [hlw]; exact hst0.fr, ⟨hst0.H.dom, fun b r o c' cs own hb hrow => ?_, fun b1 b2 r o1 c1 o2 c2 cs1 cs2 own2 h1 h2 hr1 hr2 => ?_,
    ⟨fun b r o c' es hx hb hrow => hst0.H.mp.ent b r o c' es hx hb (by rw [hH2 b (ltM _ _ _ _ _ hb hrow)] at hrow; exact hrow), fun b1 b2 r o1 c1 o2 c2 e1 e2 hx1 hx2 h1 h2 hr1 hr2 => hst0.H.mp.inj b1 b2 r o1 c1 o2 c2 e1 e2 hx1 hx2 h1 h2 (by rw [hH2 b1 (ltM _ _ _ _ _ h1 hr1)] at hr1; exact hr1) (by rw [hH2 b2 (ltM _ _ _ _ _ h2 hr2)] at hr2; exact hr2)⟩⟩, hcm, fun k hk hs => ?_, fun k hk ht hck => ?_, hst0.L.dom, hst0.L.inj, hst0.L.disj, fun id r cs hr hcs => ?_, fun i hi _ b h1 h2 => ?_, fun i hi _ b h1 h2 => ?_,
    fun i id _ hl => ?_, rfl, rfl, rfl, Nat.le_refl _, fun _ _ => rfl, fun _ _ => rfl, fun b r o c h1 h2 hb => ?_, fun i r h1 h2 hi => ?_, fun _ _ _ _ => rfl⟩
  · rw [hH2 b (lt _ _ _ _ _ _ hb hrow)] at hrow
    exact hst0.H.row b r o c' cs own hb hrow
  · rw [hH2 b1 (lt _ _ _ _ _ _ h1 hr1)] at hr1
    rw [hH2 b2 (lt _ _ _ _ _ _ h2 hr2)] at hr2
    exact hst0.H.inj b1 b2 r o1 c1 o2 c2 cs1 cs2 own2 h1 h2 hr1 hr2
  · rw [hS]
    constructor
    · intro h; cases h
    · intro h; exact absurd hs (hno k h)
  · by_cases e : c = k
    · subst e; exact hfst hk
    · exact touch_last R (by omega) hk (hfst (by omega)) ht
  · rw [hmw] at hcs
    exact hst0.L.row id r cs trivial hr hcs
  · have q1 := run_Hle hc R (i := 0) (j := i) (by omega) (by omega)
    have q2 := run_Hle hc R (i := i + 1) (j := head.length) (by omega) (Nat.le_refl _)
    exact hfR b (by omega) (by omega)
  · have q1 := run_L hc R (i := 0) (j := i) (by omega) (by omega)
    have q2 := run_L hc R (i := i + 1) (j := head.length) (by omega) (Nat.le_refl _)
    exact hfL b (by omega) (by omega)
  · rw [hS i] at hl; cases hl
  · rw [hfR b h1 h2] at hb; cases hb
  · rw [hfL i h1 h2] at hi; cases hi

/-- what holds at the end -/
theorem inv_end (hc : CallExt call) (R : Run call lim head σ acc hp val) {c : Nat} (I : Inv lim head σ val ρ0 lam0 w0 (lis listed) c ρ lam a w) (hall : ∀ i, i < head.length → lis listed i = true) :
    Stands ρ lam (σ head.length) a w ∧ Grow lim (fun _ => True) ρ0 lam0 (σ 0).L (σ 0).H w0 ρ lam (σ head.length).L (σ head.length).H w := by
  have hH1 := run_Hle hc R (i := 0) (j := head.length) (by omega) (Nat.le_refl _)
  have hL := run_L hc R (i := 0) (j := head.length) (by omega) (Nat.le_refl _)
  have hH : (σ head.length).H = (σ c).H := run_same R I.cut (Nat.le_refl _) fun k h1 h2 ht => by
    have hs := I.cutT k h2 ht h1
    have := (I.cutS k h2 hs).1 (hall k h2)
    omega
  have hHS : HS head σ (lis listed) c = (σ c).H := by
    have hcm := I.cut
    refine List.ext_getElem? fun b => HS_no fun i hi => ?_
    have := hall i (by have := hi.1; omega)
    rw [hi.2.2.1] at this; cases this
  refine ⟨⟨?_, by rw [hH, ← hHS]; exact I.H, I.dom, I.inj, I.disj, fun id r cs _ hr hcs => I.row id r cs hr ?_⟩, I.os, I.tape, I.output, I.size, hH1, hL, I.extR, I.extL, I.newR, I.newL,
    fun r hr ho ht => I.keep r hr ho fun i => ht i trivial, fun b hb ho => run_own hc R (Nat.zero_le _) (Nat.le_refl _) b hb ho⟩
  · have : (σ head.length).fr = lw (σ 0).fr (dstAt head) val (lis listed) head.length := by
      rw [fr_lw R (Nat.le_refl _)]
      funext t
      exact lw_agree fun i hi _ => (hall i hi).symm
    rw [this]; exact I.fr
  · rw [← hcs, L_mw hc R (Nat.le_refl _) id]
    exact mw_agree fun i hi _ => hall i hi

end
end Go.Proofs.YtpdnbmnnkefedaaGreatDoor.Vm

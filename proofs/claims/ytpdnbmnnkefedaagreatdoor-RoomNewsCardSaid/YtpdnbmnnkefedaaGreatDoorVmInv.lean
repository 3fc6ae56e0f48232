/- The head of a drawn region, in whatever order: what holds when some of its operations are done. -/
import Derived.Test.YtpdnbmnnkefedaaGreatDoorVmLex
namespace Go.Proofs.YtpdnbmnnkefedaaGreatDoor.Vm
open Go
set_option linter.unusedVariables false
set_option linter.unusedSimpArgs false

def dstAt (head : List VOper) (i : Nat) : Option Nat := (head.getD i default).dst

theorem dstAt_of {head : List VOper} {i : Nat} {vo : VOper} (h : head[i]? = some vo) : dstAt head i = vo.dst := by
  simp [dstAt, List.getD_eq_getElem?_getD, h]

/-- append i is to come yet, and lets row b die -/
def pend (head : List VOper) (σ : Nat → St) (S : Nat → Bool) (c b i : Nat) : Prop := i < c ∧ apps head σ i ∧ S i = false ∧ kills σ i b
open Classical in
/-- the heap at c, with the rows that die by what is to come -/
noncomputable def HS (head : List VOper) (σ : Nat → St) (S : Nat → Bool) (c : Nat) : Hp :=
  (List.range (σ c).H.length).map fun b => if h : ∃ i, pend head σ S c b i then (σ (Classical.choose h)).H.getD b default else (σ c).H.getD b default
theorem HS_len {head : List VOper} {σ : Nat → St} {S : Nat → Bool} {c : Nat} : (HS head σ S c).length = (σ c).H.length := by simp [HS]
theorem HS_congr {head : List VOper} {σ : Nat → St} {S S' : Nat → Bool} {c : Nat} (h : ∀ i, i < c → apps head σ i → S i = S' i) : HS head σ S c = HS head σ S' c := by
  have e : pend head σ S c = pend head σ S' c := by
    funext b i
    apply propext
    constructor
    · rintro ⟨h1, h2, h3, h4⟩; exact ⟨h1, h2, by rw [← h i h1 h2]; exact h3, h4⟩
    · rintro ⟨h1, h2, h3, h4⟩; exact ⟨h1, h2, by rw [h i h1 h2]; exact h3, h4⟩
  unfold HS
  rw [e]
theorem HS_no {head : List VOper} {σ : Nat → St} {S : Nat → Bool} {c b : Nat} (h : ∀ i, ¬ pend head σ S c b i) : (HS head σ S c)[b]? = (σ c).H[b]? := by
  by_cases hb : b < (σ c).H.length
  · have hn : ¬ ∃ i, pend head σ S c b i := fun ⟨i, hi⟩ => h i hi
    unfold HS
    rw [List.getElem?_map, List.getElem?_range hb]
    simp only [Option.map_some, dif_neg hn, List.getD_eq_getElem?_getD, List.getElem?_eq_getElem hb, Option.getD_some]
  · rw [List.getElem?_eq_none (by rw [HS_len]; omega), List.getElem?_eq_none (by omega)]

structure Inv (lim : Nat) (head : List VOper) (σ : Nat → St) (val : Nat → V) (ρ0 : Loc) (lam0 : Lam) (w0 : World) (S : Nat → Bool) (c : Nat) (ρ : Loc) (lam : Lam) (a : Act) (w : World) : Prop where
  fr : FRel ρ lam (lw (σ 0).fr (dstAt head) val S head.length) a.tmps
  H : RelH ρ (HS head σ S c) w
  cut : c ≤ head.length
  cutS : ∀ k, k < head.length → hst head σ k → (S k = true ↔ k < c)
  cutT : ∀ k, k < head.length → touches head σ k → c ≤ k → hst head σ k
  dom : ∀ id r, lam id = some r → r < w.heap.size
  inj : ∀ i j r, lam i = some r → lam j = some r → i = j
  disj : ∀ id r b o c, lam id = some r → ρ b ≠ some (r, o, c)
  row : ∀ id r cs, lam id = some r → mw (fun i => (σ i).L) (wrt head σ) S head.length id = some cs → RowL ρ cs r w
  freeR : ∀ i, i < head.length → S i = false → FreeR ρ (σ i).H.length (σ (i + 1)).H.length
  freeL : ∀ i, i < head.length → S i = false → FreeL lam (σ i).L.length (σ (i + 1)).L.length
  acc : ∀ i id, i < head.length → S i = true → acts head σ i id → ∃ r, lam id = some r
  os : w.os = w0.os
  tape : w.tape = w0.tape
  output : w.output = w0.output
  size : w0.heap.size ≤ w.heap.size
  extR : ∀ b, (b < (σ 0).H.length ∨ (σ head.length).H.length ≤ b) → ρ b = ρ0 b
  extL : ∀ i, (i < (σ 0).L.length ∨ (σ head.length).L.length ≤ i) → lam i = lam0 i
  newR : ∀ b r o c, (σ 0).H.length ≤ b → b < (σ head.length).H.length → ρ b = some (r, o, c) → w0.heap.size ≤ r ∨ Open lim ρ0 (σ 0).H r
  newL : ∀ i r, (σ 0).L.length ≤ i → i < (σ head.length).L.length → lam i = some r → w0.heap.size ≤ r
  keep : ∀ r, r < w0.heap.size → ¬ Open lim ρ0 (σ 0).H r → (∀ i, lam0 i ≠ some r) → w.heap[r]? = w0.heap[r]?

section
variable {P : Program} {call : CallFn} {glob : List Nat} {nt : Nat} {ops : Array Oper} {head : List VOper} {σ : Nat → St} {acc : Nat → List (Nat × Nat)} {hp : Nat → HpAcc} {val : Nat → V} {lim : Nat}

theorem slot_looks {o : Oper} {vo : VOper} (h : slimOp P glob o = some vo.op) (hg : (match o.guard with | none => vo.guard = none | some (j, want) => ∃ s, (ops[j]?).bind (·.dst) = some s ∧ vo.guard = some (s, want))) :
    (∀ t ∈ slots vo.op, t ∈ o.looksAt ops) ∧ (∀ s want, vo.guard = some (s, want) → s ∈ o.looksAt ops) := by
  constructor
  · intro t ht
    have := slim_slots h t ht
    unfold Oper.looksAt
    rw [List.mem_append]
    left
    rw [List.mem_filterMap]
    exact ⟨.tmp t, by simpa using this, rfl⟩
  · intro s want hs
    unfold Oper.looksAt
    rw [List.mem_append]
    right
    split at hg
    · rw [hg] at hs; cases hs
    · rename_i j w' hgd
      obtain ⟨s', h1, h2⟩ := hg
      rw [h2] at hs; cases hs
      rw [hgd]
      simp only [h1, Option.toList, List.mem_singleton]

/-- a ready operation sees in its own frame what it saw in the order of the text -/
theorem evVal_congr {lim : Nat} {vo : VOper} {fr fr' : Fr} {L : Lo} {H : Hp} (h : ∀ t ∈ slots vo.op, fr t = fr' t) (hg : ∀ s want, vo.guard = some (s, want) → fr s = fr' s) :
    evVal call lim vo ⟨fr, L, H⟩ = evVal call lim vo ⟨fr', L, H⟩ ∧ wanted fr vo.guard = wanted fr' vo.guard ∧ memId fr vo.op = memId fr' vo.op ∧ target fr vo.op = target fr' vo.op := by
  obtain ⟨h1, h2, h3⟩ := evOp_congr (lim := lim) (L := L) (H := H) h
  have hw : wanted fr vo.guard = wanted fr' vo.guard := by
    cases hq : vo.guard with
    | none => rfl
    | some p => obtain ⟨s, want⟩ := p; simp only [wanted, hg s want hq]
  exact ⟨by simp only [evVal, hw, h1], hw, h2, h3⟩

/-- the listed, by the array -/
def lis (listed : Array Bool) (i : Nat) : Bool := listed.getD i false

variable {ρ0 : Loc} {lam0 : Lam} {w0 : World} {ρ : Loc} {lam : Lam} {a : Act} {w : World} {listed : Array Bool}

theorem ready_dep {k i : Nat} (hk : k ∈ Region.ready .any ops listed) (h : Region.waitsFor .any ops k i = true) : lis listed i = true := by
  obtain ⟨_, o, ho, hall⟩ := mem_ready.1 hk
  obtain ⟨o', ho', e, he, hb, hon⟩ := Region.waitsFor_spec h
  rw [ho] at ho'; cases ho'
  have := hall e he hb
  rw [hon] at this; exact this

theorem late_un {m k i : Nat} (inv : HeadInv .any ops m listed) (hk : lis listed k = false) (h : Region.waitsFor .any ops i k = true) : lis listed i = false := by
  obtain ⟨o', ho', e, he, hb, hon⟩ := Region.waitsFor_spec h
  cases hl : lis listed i with
  | false => rfl
  | true =>
    have := inv.closed i o' ho' hl e he hb
    rw [hon] at this
    unfold lis at hk; rw [hk] at this; cases this

theorem ready_wt {m k i : Nat} (inv : HeadInv .any ops m listed) (hk : k ∈ Region.ready .any ops listed) (h : Wt ops i k) : lis listed i = true := by
  have key : ∀ {k : Nat}, Wt ops i k → lis listed k = true → lis listed i = true := by
    intro k h
    have step : ∀ {k j : Nat}, Region.waitsFor .any ops k j = true → lis listed k = true → lis listed j = true := by
      intro k j h hl
      cases hj : lis listed j with
      | true => rfl
      | false => rw [late_un inv hj h] at hl; cases hl
    induction h with
    | one h => exact step h
    | more h _ ih => exact fun hl => ih (step h hl)
  cases h with
  | one h => exact ready_dep hk h
  | more h g => exact key g (ready_dep hk h)
theorem late_wt {m k i : Nat} (inv : HeadInv .any ops m listed) (hk : lis listed k = false) (h : Wt ops k i) : lis listed i = false := by
  induction h with
  | one h => exact late_un inv hk h
  | more h _ ih => exact late_un inv ih h
theorem ready_un {k : Nat} (hk : k ∈ Region.ready .any ops listed) : lis listed k = false := getD_both (mem_ready.1 hk).1

/-- the frame of a ready operation -/
theorem fr_ready (R : Run call lim head σ acc hp val) (G : RegOk P glob nt ops head) (hx : Lex ops) (inv : HeadInv .any ops head.length listed) {k : Nat} (hkm : k < head.length) (hk : k ∈ Region.ready .any ops listed) {o : Oper} (ho : ops[k]? = some o) :
    ∀ t ∈ o.looksAt ops, lw (σ 0).fr (dstAt head) val (lis listed) head.length t = (σ k).fr t := by
  intro t ht
  have hun := ready_un hk
  rw [fr_lw R (Nat.le_of_lt hkm)]
  have geto : ∀ i, i < head.length → ∃ oi vo, ops[i]? = some oi ∧ head[i]? = some vo ∧ dstAt head i = oi.dst := by
    intro i hi
    obtain ⟨oi, h1, _, h3, _⟩ := G.get i head[i] (List.getElem?_eq_getElem hi)
    exact ⟨oi, head[i], h1, List.getElem?_eq_getElem hi, by rw [dstAt_of (List.getElem?_eq_getElem hi), h3]⟩
  rw [lw_stop (k := k) (Nat.le_of_lt hkm) fun i h1 h2 hd => ?_]
  · refine lw_agree (S' := fun _ => true) fun i hi hd => ?_
    obtain ⟨oi, vo, h1, _, h3⟩ := geto i (by omega)
    rw [h3] at hd
    rcases hx.pair i k oi o hi h1 ho with h4 | h4
    · exact ready_dep hk h4
    · exact absurd ht ((Oper.apart_spec h4).1 t hd)
  · by_cases e : i = k
    · subst e; exact hun
    · obtain ⟨oi, vo, g1, _, g3⟩ := geto i h2
      rw [g3] at hd
      rcases hx.pair k i o oi (by omega) ho g1 with h4 | h4
      · exact late_un inv hun h4
      · exact absurd ht ((Oper.apart_spec h4).2.2 t hd)

/-- the variables that a ready operation looks at, or writes -/
theorem mw_ready (hc : CallExt call) (R : Run call lim head σ acc hp val) (G : RegOk P glob nt ops head) (inv : HeadInv .any ops head.length listed) {c : Nat} (I : Inv lim head σ val ρ0 lam0 w0 (lis listed) c ρ lam a w)
    {k : Nat} (hkm : k < head.length) (hk : k ∈ Region.ready .any ops listed) {id r : Nat} (ha : acts head σ k id) (hr : lam id = some r) :
    mw (fun i => (σ i).L) (wrt head σ) (lis listed) head.length id = (σ k).L[id]? := by
  have hun := ready_un hk
  rw [L_mw hc R (Nat.le_of_lt hkm) id]
  rw [mw_stop (k := k) (Nat.le_of_lt hkm) fun i h1 h2 hw => ?_]
  · refine mw_agree fun i hi hw => ?_
    rcases wrt_iff.1 hw with hs | ⟨h1, h2⟩
    · exact ready_wt inv hk (conflict R G hi hkm (stores_acts hs) ha (Or.inl hs))
    · cases hl : lis listed i with
      | true => rfl
      | false =>
        have := I.freeL i (by omega) hl id h1 h2
        rw [this] at hr; cases hr
  · by_cases e : i = k
    · subst e; exact hun
    · rcases wrt_iff.1 hw with hs | ⟨g1, g2⟩
      · exact late_wt inv hun (conflict R G (by omega) h2 ha (stores_acts hs) (Or.inr hs))
      · have := acts_lt R ha
        have := run_L hc R (i := k) (j := i) h1 (by omega)
        omega

theorem noOpen {ρ : Loc} {H : Hp} {r : Nat} : ¬ Open H.length ρ H r := by
  rintro ⟨b, o, c, hb, ⟨cs, hcs⟩, _⟩
  have := (List.getElem?_eq_some_iff.1 hcs.1).1
  omega

end
end Go.Proofs.YtpdnbmnnkefedaaGreatDoor.Vm

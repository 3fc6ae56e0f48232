/- What an operation, a piece of code, a call does to the two memories side by side. -/
import Derived.Test.YtpdnbmnnkefedaaGreatDoorVmRel
import Derived.Laws.CopyRow
namespace Go.Proofs.YtpdnbmnnkefedaaGreatDoor.Vm
open Go
set_option linter.unusedVariables false
set_option linter.unusedSimpArgs false

/-- a block that may be written -/
def ownB : Blk → Bool
  | .row _ own => own
  | .dead => false
  | .map _ => true
  | .loop _ _ _ => false
  | .sit _ _ => true
def OwnAt (H : Hp) (b : Nat) : Prop := ∃ x, H[b]? = some x ∧ ownB x = true

/-- block r of the model's heap may be written: it stands for a row of one's own from 'lim' on -/
def Open (lim : Nat) (ρ : Loc) (H : Hp) (r : Nat) : Prop := ∃ b o c, lim ≤ b ∧ OwnAt H b ∧ ρ b = some (r, o, c)

structure Grow (lim : Nat) (tg : Nat → Prop) (ρ : Loc) (lam : Lam) (L : Lo) (H : Hp) (w : World) (ρ' : Loc) (lam' : Lam) (L' : Lo) (H' : Hp) (w' : World) : Prop where
  os : w'.os = w.os
  tape : w'.tape = w.tape
  output : w'.output = w.output
  size : w.heap.size ≤ w'.heap.size
  lenH : H.length ≤ H'.length
  lenL : L.length ≤ L'.length
  extR : ∀ b, (b < H.length ∨ H'.length ≤ b) → ρ' b = ρ b
  extL : ∀ i, (i < L.length ∨ L'.length ≤ i) → lam' i = lam i
  newR : ∀ b r o c, H.length ≤ b → b < H'.length → ρ' b = some (r, o, c) → w.heap.size ≤ r ∨ Open lim ρ H r
  newL : ∀ i r, L.length ≤ i → i < L'.length → lam' i = some r → w.heap.size ≤ r
  keep : ∀ r, r < w.heap.size → ¬ Open lim ρ H r → (∀ i, tg i → lam i ≠ some r) → w'.heap[r]? = w.heap[r]?
  own : ∀ b, b < H.length → OwnAt H' b → OwnAt H b

/-- the ids that come are free -/
def FreeR (ρ : Loc) (lo hi : Nat) : Prop := ∀ b, lo ≤ b → b < hi → ρ b = none
def FreeL (lam : Lam) (lo hi : Nat) : Prop := ∀ i, lo ≤ i → i < hi → lam i = none

section
variable {lim : Nat} {tg : Nat → Prop} {ρ ρ' ρ'' : Loc} {lam lam' lam'' : Lam} {L L' L'' : Lo} {H H' H'' : Hp} {w w' w'' : World}

theorem Grow.refl : Grow lim tg ρ lam L H w ρ lam L H w :=
  ⟨rfl, rfl, rfl, Nat.le_refl _, Nat.le_refl _, Nat.le_refl _, fun _ _ => rfl, fun _ _ => rfl, fun b _ _ _ h1 h2 => absurd h2 (by omega), fun i _ h1 h2 => absurd h2 (by omega), fun _ _ _ _ => rfl, fun _ _ h => h⟩

theorem Grow.leR (g : Grow lim tg ρ lam L H w ρ' lam' L' H' w') (hf : FreeR ρ H.length H'.length) : ∀ b x, ρ b = some x → ρ' b = some x := by
  intro b x hx
  by_cases h : b < H.length ∨ H'.length ≤ b
  · rw [g.extR b h]; exact hx
  · have := hf b (by omega) (by omega); rw [this] at hx; cases hx

theorem Grow.leL (g : Grow lim tg ρ lam L H w ρ' lam' L' H' w') (hf : FreeL lam L.length L'.length) : ∀ i r, lam i = some r → lam' i = some r := by
  intro i r hx
  by_cases h : i < L.length ∨ L'.length ≤ i
  · rw [g.extL i h]; exact hx
  · have := hf i (by omega) (by omega); rw [this] at hx; cases hx

theorem Grow.freeR (g : Grow lim tg ρ lam L H w ρ' lam' L' H' w') {lo hi : Nat} (hlo : H'.length ≤ lo) (hf : FreeR ρ lo hi) : FreeR ρ' lo hi := by
  intro b h1 h2
  rw [g.extR b (Or.inr (by omega))]; exact hf b h1 h2

theorem Grow.freeL (g : Grow lim tg ρ lam L H w ρ' lam' L' H' w') {lo hi : Nat} (hlo : L'.length ≤ lo) (hf : FreeL lam lo hi) : FreeL lam' lo hi := by
  intro b h1 h2
  rw [g.extL b (Or.inr (by omega))]; exact hf b h1 h2

theorem Open.back (g : Grow lim tg ρ lam L H w ρ' lam' L' H' w') {r : Nat} (hr : r < w.heap.size) (h : Open lim ρ' H' r) : Open lim ρ H r := by
  obtain ⟨b, o, c, hb, hown, hρ⟩ := h
  by_cases hlt : b < H.length
  · rw [g.extR b (Or.inl hlt)] at hρ
    exact ⟨b, o, c, hb, g.own b hlt hown, hρ⟩
  · have hlt' : b < H'.length := by
      obtain ⟨cs, hcs⟩ := hown
      exact (List.getElem?_eq_some_iff.1 hcs.1).1
    rcases g.newR b r o c (by omega) hlt' hρ with h1 | h1
    · omega
    · exact h1

/-- two steps, one behind the other -/
theorem Grow.trans (g : Grow lim (fun _ => True) ρ lam L H w ρ' lam' L' H' w') (k : Grow lim (fun _ => True) ρ' lam' L' H' w' ρ'' lam'' L'' H'' w'')
    (hdomL : ∀ i r, lam' i = some r → r < w'.heap.size) :
    Grow lim (fun _ => True) ρ lam L H w ρ'' lam'' L'' H'' w'' := by
  refine ⟨k.os.trans g.os, k.tape.trans g.tape, k.output.trans g.output, Nat.le_trans g.size k.size, Nat.le_trans g.lenH k.lenH, Nat.le_trans g.lenL k.lenL, ?_, ?_, ?_, ?_, ?_, ?_⟩
  · intro b hb
    have := g.lenH; have := k.lenH
    rw [k.extR b (by omega), g.extR b (by omega)]
  · intro b hb
    have := g.lenL; have := k.lenL
    rw [k.extL b (by omega), g.extL b (by omega)]
  · intro b r o c h1 h2 hρ
    by_cases hlt : b < H'.length
    · rw [k.extR b (Or.inl hlt)] at hρ
      exact g.newR b r o c h1 hlt hρ
    · rcases k.newR b r o c (by omega) h2 hρ with h3 | h3
      · exact Or.inl (Nat.le_trans g.size h3)
      · by_cases hr : r < w.heap.size
        · exact Or.inr (h3.back g hr)
        · exact Or.inl (by omega)
  · intro i r h1 h2 hl
    by_cases hlt : i < L'.length
    · rw [k.extL i (Or.inl hlt)] at hl
      exact g.newL i r h1 hlt hl
    · have := k.newL i r (by omega) h2 hl
      have := g.size; omega
  · intro r hr hno htg
    have h1 := g.keep r hr hno htg
    have hr' : r < w'.heap.size := Nat.lt_of_lt_of_le hr g.size
    have h2 := k.keep r hr' (fun ho => hno (ho.back g hr)) (fun i _ hi => by
      by_cases hlt : i < L.length ∨ L'.length ≤ i
      · rw [g.extL i hlt] at hi; exact htg i trivial hi
      · have := g.newL i r (by omega) (by omega) hi; omega)
    exact h2.trans h1
  · intro b hb hown
    exact g.own b hb (k.own b (Nat.lt_of_lt_of_le hb g.lenH) hown)

theorem Grow.tgTrue (g : Grow lim tg ρ lam L H w ρ' lam' L' H' w') : Grow lim (fun _ => True) ρ lam L H w ρ' lam' L' H' w' :=
  { g with keep := fun r hr hno htg => g.keep r hr hno fun i _ => htg i trivial }

/-- a higher limit says more -/
theorem Grow.limLe {lim' : Nat} (g : Grow lim tg ρ lam L H w ρ' lam' L' H' w') (hl : lim' ≤ lim) : Grow lim' tg ρ lam L H w ρ' lam' L' H' w' :=
  { g with
    newR := fun b r o c h1 h2 h3 => (g.newR b r o c h1 h2 h3).imp id fun ⟨b, o, c, hb, h4, h5⟩ => ⟨b, o, c, by omega, h4, h5⟩
    keep := fun r hr hno htg => g.keep r hr (fun ⟨b, o, c, hb, h4, h5⟩ => hno ⟨b, o, c, by omega, h4, h5⟩) htg }

/-- a draw -/
theorem Grow.drew (g : Grow lim tg ρ lam L H w ρ' lam' L' H' w') : Grow lim tg ρ lam L H w ρ' lam' L' H' w'.drew :=
  { g with os := g.os, tape := g.tape, output := g.output, size := g.size, keep := g.keep }
theorem RelH.drew (h : RelH ρ H w) : RelH ρ H w.drew := ⟨h.dom, h.row, h.inj, ⟨h.mp.ent, h.mp.inj⟩⟩
theorem RelL.drew {A : Nat → Prop} (h : RelL A ρ lam L w) : RelL A ρ lam L w.drew := ⟨h.dom, h.inj, h.disj, h.row⟩

end

/-- ρ with one more -/
def Loc.add (ρ : Loc) (b : Nat) (x : Nat × Nat × Nat) : Loc := fun b' => if b' = b then some x else ρ b'
def Lam.add (lam : Lam) (b : Nat) (x : Nat) : Lam := fun b' => if b' = b then some x else lam b'

theorem Loc.add_le {ρ : Loc} {b : Nat} {x : Nat × Nat × Nat} (h : ρ b = none) : ∀ b' y, ρ b' = some y → (ρ.add b x) b' = some y := by
  intro b' y hy
  unfold Loc.add
  split
  · rename_i e; subst e; rw [h] at hy; cases hy
  · exact hy
theorem Lam.add_le {lam : Lam} {b : Nat} {x : Nat} (h : lam b = none) : ∀ b' y, lam b' = some y → (lam.add b x) b' = some y := by
  intro b' y hy
  unfold Lam.add
  split
  · rename_i e; subst e; rw [h] at hy; cases hy
  · exact hy

/-- a list of cells, laid in a new array, is a row -/
theorem RowAt.of_VRs {ρ : Loc} {cs : List V} {C : Array Value} (h : VRs ρ cs C.toList) (hs : Scals cs) : RowAt ρ cs C 0 := by
  intro i hi
  refine ⟨?_, hs i hi⟩
  have := h.2 i hi
  simpa [List.getD_eq_getElem?_getD, Array.getD_eq_getD_getElem?] using this

/-- a row in a longer array -/
theorem RowAt.of_prefix {ρ : Loc} {cs : List V} {C : Array Value} {xs : List Value} (h : VRs ρ cs xs) (hs : Scals cs) (hp : ∀ i, i < cs.length → C[i]? = xs[i]?) : RowAt ρ cs C 0 := by
  intro i hi
  refine ⟨?_, hs i hi⟩
  have := h.2 i hi
  simp only [List.getD_eq_getElem?_getD, Array.getD_eq_getD_getElem?, Nat.zero_add] at this ⊢
  rw [hp i hi]; exact this

section
variable {A : Nat → Prop} {lim : Nat} {tg : Nat → Prop} {ρ : Loc} {lam : Lam} {L : Lo} {H : Hp} {w : World}

/-- ANOTHER WORLD THAT KEEPS WHAT WAS THERE, with new blocks: what stood stands. -/
theorem RelH.keep {w' : World} (h : RelH ρ H w) (hsz : w.heap.size ≤ w'.heap.size) (hk : ∀ r, r < w.heap.size → w'.heap[r]? = w.heap[r]?) : RelH ρ H w' := by
  refine ⟨fun b r o c hb => Nat.lt_of_lt_of_le (h.dom b r o c hb) hsz, fun b r o c cs own hb hr => ?_, h.inj, h.mp.of (fun _ _ _ h => h) (fun _ _ _ _ => rfl) (fun _ _ h => h) fun b r o c es _ _ h2 _ => hk r (h.dom b r o c h2)⟩
  obtain ⟨C, el, fz, h1, rest⟩ := h.row b r o c cs own hb hr
  exact ⟨C, el, fz, by rw [hk r (h.dom b r o c hb)]; exact h1, rest⟩

theorem RowL.keep {w' : World} {cs : List V} {r : Nat} (h : RowL ρ cs r w) (hk : w'.heap[r]? = w.heap[r]?) : RowL ρ cs r w' := by
  obtain ⟨C, el, h1, rest⟩ := h
  exact ⟨C, el, by rw [hk]; exact h1, rest⟩
theorem RowL.mono {ρ' : Loc} (hm : ∀ b x, ρ b = some x → ρ' b = some x) {cs : List V} {r : Nat} (h : RowL ρ cs r w) : RowL ρ' cs r w := by
  obtain ⟨C, el, h1, h2, h3⟩ := h
  exact ⟨C, el, h1, h2, h3.mono hm⟩

theorem RelL.keep {w' : World} (h : RelL A ρ lam L w) (hsz : w.heap.size ≤ w'.heap.size) (hk : ∀ r, r < w.heap.size → w'.heap[r]? = w.heap[r]?) : RelL A ρ lam L w' :=
  ⟨fun id r hi => Nat.lt_of_lt_of_le (h.dom id r hi) hsz, h.inj, h.disj, fun id r cs ha hi hc => (h.row id r cs ha hi hc).keep (hk r (h.dom id r hi))⟩

/-- A NEW ROW OF ONE's OWN: the model's block g is new. -/
theorem RelH.push {w' : World} (h : RelH ρ H w) (hfree : ρ H.length = none) (hsz : w.heap.size < w'.heap.size) (hk : ∀ r, r < w.heap.size → w'.heap[r]? = w.heap[r]?)
    {cs : List V} {C : Array Value} {el : TypeId} {fz0 : Nat × Nat} {c : Nat} (hg : w'.heap[w.heap.size]? = some (.cells C el fz0)) (hc : c ≤ C.size) (hcs : cs.length ≤ c) (hrow : RowAt ρ cs C 0) (hfz : FzOk fz0 C.size) :
    RelH (ρ.add H.length (w.heap.size, 0, c)) (H ++ [.row cs true]) w' := by
  have hle := Loc.add_le (x := (w.heap.size, 0, c)) hfree
  have hback : ∀ b x, (ρ.add H.length (w.heap.size, 0, c)) b = some x → (b = H.length ∧ x = (w.heap.size, 0, c)) ∨ (b ≠ H.length ∧ ρ b = some x) := by
    intro b x hb
    unfold Loc.add at hb
    split at hb
    · rename_i e; exact Or.inl ⟨e, (Option.some.inj hb).symm⟩
    · rename_i e; exact Or.inr ⟨e, hb⟩
  have hget : ∀ b blk, (H ++ [Blk.row cs true])[b]? = some blk → b ≠ H.length → H[b]? = some blk := by
    intro b blk hb hne
    by_cases hlt : b < H.length
    · rwa [List.getElem?_append_left hlt] at hb
    · have := (List.getElem?_eq_some_iff.1 hb).1
      simp at this; omega
  refine ⟨fun b r o c' hb => ?_, fun b r o c' cs' own hb hr => ?_, fun b1 b2 r o1 c1 o2 c2 cs1 cs2 own2 h1 h2 hr1 hr2 => ?_, h.mp.of (fun b es hx hb => ?_) (fun b es hx hb => ?_) hle fun b r o c es _ _ h2 _ => hk r (h.dom b r o c h2)⟩
  case refine_4 =>
    refine hget b _ hb fun e => ?_
    rw [e, List.getElem?_concat_length] at hb
    cases hb; cases hx
  case refine_5 =>
    unfold Loc.add
    rw [if_neg]
    intro e
    rw [e, List.getElem?_concat_length] at hb
    cases hb; cases hx
  · rcases hback b _ hb with ⟨_, e⟩ | ⟨_, e⟩
    · cases e; exact hsz
    · exact Nat.lt_trans (h.dom b r o c' e) hsz
  · rcases hback b _ hb with ⟨rfl, e⟩ | ⟨hne, e⟩
    · cases e
      rw [List.getElem?_concat_length] at hr
      cases hr
      exact ⟨C, el, fz0, hg, by omega, hcs, fun _ => hfz, hrow.mono hle⟩
    · obtain ⟨C', el', fz, g1, g2, g3, g4, g5⟩ := h.row b r o c' cs' own e (hget b _ hr hne)
      exact ⟨C', el', fz, by rw [hk r (h.dom b r o c' e)]; exact g1, g2, g3, g4, g5.mono hle⟩
  · rcases hback b1 _ h1 with ⟨e1, x1⟩ | ⟨n1, x1⟩ <;> rcases hback b2 _ h2 with ⟨e2, x2⟩ | ⟨n2, x2⟩
    · omega
    · cases x1; have := h.dom b2 _ _ _ x2; omega
    · cases x2; have := h.dom b1 _ _ _ x1; omega
    · exact h.inj b1 b2 r o1 c1 o2 c2 cs1 cs2 own2 x1 x2 (hget b1 _ hr1 n1) (hget b2 _ hr2 n2)

theorem RelH.pushF {w' : World} (h : RelH ρ H w) (hfree : ρ H.length = none) (hsz : w.heap.size < w'.heap.size) (hk : ∀ r, r < w.heap.size → w'.heap[r]? = w.heap[r]?)
    {cs : List V} {C : Array Value} {el : TypeId} {fz0 : Nat × Nat} {c : Nat} (hg : w'.heap[w.heap.size]? = some (.cells C el fz0)) (hc : c ≤ C.size) (hcs : cs.length ≤ c) (hrow : RowAt ρ cs C 0) :
    RelH (ρ.add H.length (w.heap.size, 0, c)) (H ++ [.row cs false]) w' := by
  have hle := Loc.add_le (x := (w.heap.size, 0, c)) hfree
  have hback : ∀ b x, (ρ.add H.length (w.heap.size, 0, c)) b = some x → (b = H.length ∧ x = (w.heap.size, 0, c)) ∨ (b ≠ H.length ∧ ρ b = some x) := by
    intro b x hb
    unfold Loc.add at hb
    split at hb
    · rename_i e; exact Or.inl ⟨e, (Option.some.inj hb).symm⟩
    · rename_i e; exact Or.inr ⟨e, hb⟩
  have hget : ∀ b blk, (H ++ [Blk.row cs false])[b]? = some blk → b ≠ H.length → H[b]? = some blk := by
    intro b blk hb hne
    by_cases hlt : b < H.length
    · rwa [List.getElem?_append_left hlt] at hb
    · have := (List.getElem?_eq_some_iff.1 hb).1
      simp at this; omega
  refine ⟨fun b r o c' hb => ?_, fun b r o c' cs' own hb hr => ?_, fun b1 b2 r o1 c1 o2 c2 cs1 cs2 own2 h1 h2 hr1 hr2 => ?_, h.mp.of (fun b es hx hb => ?_) (fun b es hx hb => ?_) hle fun b r o c es _ _ h2 _ => hk r (h.dom b r o c h2)⟩
  case refine_4 =>
    refine hget b _ hb fun e => ?_
    rw [e, List.getElem?_concat_length] at hb
    cases hb; cases hx
  case refine_5 =>
    unfold Loc.add
    rw [if_neg]
    intro e
    rw [e, List.getElem?_concat_length] at hb
    cases hb; cases hx
  · rcases hback b _ hb with ⟨_, e⟩ | ⟨_, e⟩
    · cases e; exact hsz
    · exact Nat.lt_trans (h.dom b r o c' e) hsz
  · rcases hback b _ hb with ⟨rfl, e⟩ | ⟨hne, e⟩
    · cases e
      rw [List.getElem?_concat_length] at hr
      cases hr
      exact ⟨C, el, fz0, hg, by omega, hcs, (fun e => by cases e), hrow.mono hle⟩
    · obtain ⟨C', el', fz, g1, g2, g3, g4, g5⟩ := h.row b r o c' cs' own e (hget b _ hr hne)
      exact ⟨C', el', fz, by rw [hk r (h.dom b r o c' e)]; exact g1, g2, g3, g4, g5.mono hle⟩
  · rcases hback b1 _ h1 with ⟨e1, x1⟩ | ⟨n1, x1⟩ <;> rcases hback b2 _ h2 with ⟨e2, x2⟩ | ⟨n2, x2⟩
    · omega
    · cases x1; have := h.dom b2 _ _ _ x2; omega
    · cases x2; have := h.dom b1 _ _ _ x1; omega
    · exact h.inj b1 b2 r o1 c1 o2 c2 cs1 cs2 own2 x1 x2 (hget b1 _ hr1 n1) (hget b2 _ hr2 n2)

theorem RelL.pushH {w' : World} {b : Nat} (h : RelL A ρ lam L w) (hfree : ρ b = none) (hsz : w.heap.size < w'.heap.size) (hk : ∀ r, r < w.heap.size → w'.heap[r]? = w.heap[r]?) {c : Nat} :
    RelL A (ρ.add b (w.heap.size, 0, c)) lam L w' := by
  have hle := Loc.add_le (x := (w.heap.size, 0, c)) hfree
  refine ⟨fun id r hi => Nat.lt_trans (h.dom id r hi) hsz, h.inj, fun id r b' o c' hi hb => ?_, fun id r cs ha hi hc => ((h.row id r cs ha hi hc).mono hle).keep (hk r (h.dom id r hi))⟩
  unfold Loc.add at hb
  split at hb
  · cases hb; have := h.dom id _ hi; omega
  · exact h.disj id r b' o c' hi hb

/-- A NEW VARIABLE of the activation. -/
theorem RelL.push {w' : World} (h : RelL A ρ lam L w) (hH : RelH ρ H w) (hfree : lam L.length = none) (hsz : w.heap.size < w'.heap.size) (hk : ∀ r, r < w.heap.size → w'.heap[r]? = w.heap[r]?)
    {cs : List V} {C : Array Value} {el : TypeId} (hg : w'.heap[w.heap.size]? = some (.cells C el (0, 0))) (hc : C.size = cs.length) (hrow : RowAt ρ cs C 0) :
    RelL (fun i => A i ∨ L.length ≤ i) ρ (lam.add L.length w.heap.size) (L ++ [cs]) w' := by
  have hback : ∀ i r, (lam.add L.length w.heap.size) i = some r → (i = L.length ∧ r = w.heap.size) ∨ (i ≠ L.length ∧ lam i = some r) := by
    intro i r hi
    unfold Lam.add at hi
    split at hi
    · rename_i e; exact Or.inl ⟨e, (Option.some.inj hi).symm⟩
    · rename_i e; exact Or.inr ⟨e, hi⟩
  refine ⟨fun i r hi => ?_, fun i j r h1 h2 => ?_, fun i r b o c hi hb => ?_, fun i r cs' ha hi hcs => ?_⟩
  · rcases hback i r hi with ⟨_, rfl⟩ | ⟨_, e⟩
    · exact hsz
    · exact Nat.lt_trans (h.dom i r e) hsz
  · rcases hback i r h1 with ⟨e1, x1⟩ | ⟨n1, x1⟩ <;> rcases hback j r h2 with ⟨e2, x2⟩ | ⟨n2, x2⟩
    · omega
    · have := h.dom j r x2; omega
    · have := h.dom i r x1; omega
    · exact h.inj i j r x1 x2
  · rcases hback i r hi with ⟨_, rfl⟩ | ⟨_, e⟩
    · have := hH.dom b _ _ _ hb; omega
    · exact h.disj i r b o c e hb
  · rcases hback i r hi with ⟨rfl, rfl⟩ | ⟨hne, e⟩
    · rw [List.getElem?_concat_length] at hcs
      cases hcs
      exact ⟨C, el, hg, hc, hrow⟩
    · have hlt : i < L.length := by
        have := (List.getElem?_eq_some_iff.1 hcs).1
        simp at this; omega
      rw [List.getElem?_append_left hlt] at hcs
      exact (h.row i r cs' (ha.resolve_right (by omega)) e hcs).keep (hk r (h.dom i r e))

end
end Go.Proofs.YtpdnbmnnkefedaaGreatDoor.Vm

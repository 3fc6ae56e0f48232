/- The lexical order of a drawn region, as facts; and the tail's order. -/
import Derived.Test.YtpdnbmnnkefedaaGreatDoorVmDraw
namespace Go.Proofs.YtpdnbmnnkefedaaGreatDoor.Vm
open Go
set_option linter.unusedVariables false
set_option linter.unusedSimpArgs false

structure Lex (ops : Array Oper) : Prop where
  pair : ∀ (i j : Nat) oi oj, i < j → ops[i]? = some oi → ops[j]? = some oj → Region.waitsFor .any ops j i = true ∨ oi.apart ops oj = true
  back : ∀ (j : Nat) oj, ops[j]? = some oj → ∀ e ∈ oj.after, Region.binds .any e = true → e.on < j

section
variable {P : Program} {ops : Array Oper} {r : Option Nat}

theorem waitsFor_of {md : Region.Mode} {i j : Nat} {oj : Oper} (hj : ops[j]? = some oj) {e : Edge} (he : e ∈ oj.after) (hb : Region.binds md e = true) (hon : e.on = i) : Region.waitsFor md ops j i = true := by
  unfold Region.waitsFor
  rw [hj]
  exact Array.any_eq_true'.2 ⟨e, he, by simp [hb, hon]⟩

theorem getD_size {listed : Array Bool} {j : Nat} (h : listed.size ≤ j) : listed.getD j false = false ∧ listed.getD j true = true := by
  simp [Array.getElem?_eq_none h]

theorem lexFrom_spec : ∀ (f k : Nat) (listed : Array Bool), k + f = ops.size → listed.size = ops.size → (∀ j, j < ops.size → (listed.getD j true = decide (j < k) ∧ listed.getD j false = decide (j < k))) → Region.lexFrom .any ops f k listed = true →
    (∀ (i j : Nat) oi oj, k ≤ i → i < j → ops[i]? = some oi → ops[j]? = some oj → Region.waitsFor .any ops j i = true ∨ oi.apart ops oj = true) ∧
    (∀ (j : Nat) oj, k ≤ j → ops[j]? = some oj → ∀ e ∈ oj.after, Region.binds .any e = true → e.on < j)
  | 0, k, listed, hk, hsz, hl, h => by
    refine ⟨fun i j oi oj h1 h2 hi hj => ?_, fun j oj h1 hj => ?_⟩
    · have := (Array.getElem?_eq_some_iff.1 hi).1; omega
    · have := (Array.getElem?_eq_some_iff.1 hj).1; omega
  | f + 1, k, listed, hk, hsz, hl, h => by
    simp only [Region.lexFrom, Bool.and_eq_true] at h
    obtain ⟨⟨hr, hf⟩, hrest⟩ := h
    obtain ⟨_, ok, hok, hall⟩ := mem_ready.1 (by simpa using hr : k ∈ Region.ready .any ops listed)
    have ih := lexFrom_spec f (k + 1) (listed.setIfInBounds k true) (by omega) (by simpa using hsz) (fun j hj => by
      by_cases e : k = j
      · subst e
        have : k < listed.size := by omega
        simp [this]
      · rw [getD_set_ne true e, getD_set_ne false e, (hl j hj).1, (hl j hj).2]
        have : (j < k) ↔ (j < k + 1) := by omega
        simp [this]) hrest
    refine ⟨fun i j oi oj h1 h2 hi hj => ?_, fun j oj h1 hj e he hb => ?_⟩
    · by_cases e : i = k
      · subst e
        by_cases hw : Region.waitsFor .any ops j i = true
        · exact Or.inl hw
        · refine Or.inr (Region.free_spec hi hf j oj hj (by omega) ?_ ?_)
          · have := (Array.getElem?_eq_some_iff.1 hj).1
            rw [(hl j this).1]; simp; omega
          · intro e he hb hon
            exact hw (waitsFor_of hj he hb hon)
      · exact ih.1 i j oi oj (by omega) h2 hi hj
    · by_cases e' : j = k
      · subst e'
        rw [hok] at hj; cases hj
        have := hall e he hb
        by_cases hlt : e.on < ops.size
        · rw [(hl e.on hlt).2] at this; simpa using this
        · rw [(getD_size (by omega)).1] at this; cases this
      · exact ih.2 j oj (by omega) hj e he hb

theorem lex_of (h : Region.lexB .any ops = true) : Lex ops := by
  simp only [Region.lexB, Bool.and_eq_true] at h
  have := lexFrom_spec ops.size 0 (Array.replicate ops.size false) (by omega) (by simp) (fun j hj => by simp [hj]) h.2
  exact ⟨fun i j oi oj h1 hi hj => this.1 i j oi oj (by omega) h1 hi hj, fun j oj hj => this.2 j oj (by omega) hj⟩

/-- everything up to k is listed, nothing behind it: the tail in the order of the text -/
theorem wpAny_tail {Q : Exit → Act → World → Prop} (hx : Lex ops) {m : Nat} (hc : m < ops.size → Region.chainB .any ops m = true) :
    ∀ (f k : Nat) (listed : Array Bool) (a : Act) (w : World), m ≤ k → k + f = ops.size → listed.size = ops.size → (∀ j, j < ops.size → (listed.getD j true = decide (j < k) ∧ listed.getD j false = decide (j < k))) →
      wpOpsIn (rF r) 0 P ops Q (List.range' k f) a w → wpAnyIn (rF r) 0 P .any ops Q f listed a w
  | 0, k, listed, a, w, hm, hk, hsz, hl, h => by
    refine ⟨?_, by simpa [wpOpsIn] using h⟩
    cases hr : Region.ready .any ops listed with
    | nil => rfl
    | cons i l =>
      exfalso
      have hi : i ∈ Region.ready .any ops listed := by rw [hr]; simp
      obtain ⟨h1, o, ho, _⟩ := mem_ready.1 hi
      have hlt := (Array.getElem?_eq_some_iff.1 ho).1
      rw [(hl i hlt).1] at h1
      simp at h1; omega
  | f + 1, k, listed, a, w, hm, hk, hsz, hl, h => by
    have hkr : k ∈ Region.ready .any ops listed := by
      have hlt : k < ops.size := by omega
      refine mem_ready.2 ⟨by rw [(hl k hlt).1]; simp, ops[k], Array.getElem?_eq_getElem hlt, fun e he hb => ?_⟩
      have := hx.back k _ (Array.getElem?_eq_getElem hlt) e he hb
      rw [(hl e.on (by omega)).2]; simpa using this
    have only : ∀ i ∈ Region.ready .any ops listed, i = k := by
      intro i hi
      obtain ⟨h1, o, ho, hall⟩ := mem_ready.1 hi
      have hlt := (Array.getElem?_eq_some_iff.1 ho).1
      rw [(hl i hlt).1] at h1
      have hge : k ≤ i := by simpa using h1
      by_cases e : i = k
      · exact e
      · exfalso
        have hcb := hc (by omega)
        have := List.all_eq_true.1 hcb i (List.mem_range.2 hlt)
        simp only [Bool.or_eq_true, decide_eq_true_eq] at this
        rcases this with h2 | h2
        · omega
        · obtain ⟨o', ho', e2, he, hb, hon⟩ := Region.waitsFor_spec h2
          rw [ho] at ho'; cases ho'
          have := hall e2 he hb
          rw [hon, (hl (i - 1) (by omega)).2] at this
          simp at this; omega
    refine ⟨fun h0 => absurd hkr (by rw [h0]; simp), fun i hi => ?_⟩
    have := only i hi
    subst this
    rw [List.range'_succ, wpOpsIn_cons] at h
    refine wpOpIn_mono (fun a' w' h' => ?_) h
    refine wpAny_tail hx hc f (i + 1) (listed.setIfInBounds i true) a' w' (by omega) (by omega) (by simpa using hsz) (fun j hj => ?_) h'
    by_cases e : i = j
    · subst e
      have : i < listed.size := by omega
      simp [this]
    · rw [getD_set_ne true e, getD_set_ne false e, (hl j hj).1, (hl j hj).2]
      have : (j < i) ↔ (j < i + 1) := by omega
      simp [this]

theorem withLate_get {vops : List VOper} : ∀ {l : List VOper} {k : Nat}, (withLate ops vops k l).length = l.length ∧ ∀ (i : Nat) vo, (withLate ops vops k l)[i]? = some vo → ∃ o, l[i]? = some o ∧ vo = ⟨o.dst, o.op, o.guard, lateOf ops vops (k + i) o.op⟩
  | [], k => ⟨rfl, fun i vo h => by simp [withLate] at h⟩
  | o :: l, k => by
    obtain ⟨h1, h2⟩ := withLate_get (vops := vops) (l := l) (k := k + 1)
    refine ⟨by simp [withLate, h1], fun i vo h => ?_⟩
    cases i with
    | zero => simp [withLate] at h; exact ⟨o, by simp, by simpa using h.symm⟩
    | succ i =>
      simp [withLate] at h
      obtain ⟨o', e1, e2⟩ := h2 i vo h
      exact ⟨o', by simpa using e1, by rw [show k + (i + 1) = k + 1 + i by omega]; exact e2⟩

theorem headLen_spec {vops : List VOper} : headLen ops vops = ops.size ∨ (headLen ops vops < ops.size ∧ Region.sinkB .any ops (headLen ops vops) = true ∧ Region.chainB .any ops (headLen ops vops) = true) := by
  unfold headLen cutOk
  split
  · rename_i h
    simp only [Bool.and_eq_true, decide_eq_true_eq] at h
    exact Or.inr ⟨h.2.1.1, h.2.1.2, h.2.2⟩
  split
  · rename_i h
    simp only [Bool.and_eq_true, decide_eq_true_eq] at h
    exact Or.inr ⟨h.1.1, h.1.2, h.2⟩
  · split
    · rename_i h
      simp only [Bool.and_eq_true, decide_eq_true_eq] at h
      exact Or.inr ⟨h.2.1.1, h.2.1.2, h.2.2⟩
    · split
      · rename_i h
        simp only [Bool.and_eq_true, decide_eq_true_eq] at h
        exact Or.inr ⟨h.1.1, h.1.2, h.2⟩
      · exact Or.inl rfl
theorem headLen_le {vops : List VOper} : headLen ops vops ≤ ops.size := by
  rcases headLen_spec (ops := ops) (vops := vops) with h | h
  · omega
  · exact Nat.le_of_lt h.1

theorem regOk_of {glob : List Nat} {nt : Nat} {vops : List VOper} (h : slimOpers P glob nt ops ops.toList = some vops) : RegOk P glob nt ops (withLate ops vops 0 (vops.take (headLen ops vops))) := by
  obtain ⟨hlen, hget⟩ := slimOpers_get h
  obtain ⟨w1, w2⟩ := withLate_get (ops := ops) (vops := vops) (l := vops.take (headLen ops vops)) (k := 0)
  have hm := headLen_le (ops := ops) (vops := vops)
  have tk : ∀ (i : Nat) o, (vops.take (headLen ops vops))[i]? = some o → vops[i]? = some o := by
    intro i o hi
    rw [List.getElem?_take] at hi
    split at hi
    · exact hi
    · cases hi
  refine ⟨fun i vo hi => ?_, fun i j vi vj hi hj hij h1 h2 h3 => ?_, ?_⟩
  · obtain ⟨o, e1, rfl⟩ := w2 i vo hi
    have e2 := tk i o e1
    have hi2 : i < ops.size := by
      have := (List.getElem?_eq_some_iff.1 e2).1
      rw [hlen] at this; simpa using this
    obtain ⟨vo', e3, e4⟩ := hget i ops[i] (by simp [hi2])
    rw [e2] at e3; cases e3
    obtain ⟨a1, a2, a3, a4⟩ := slimOper_spec e4
    exact ⟨ops[i], Array.getElem?_eq_getElem hi2, a1, a2, a3, a4⟩
  · obtain ⟨oi, a1, rfl⟩ := w2 i vi hi
    obtain ⟨oj, b1, rfl⟩ := w2 j vj hj
    simp only at h1 h2 h3
    have b2 := tk j oj b1
    rw [Nat.zero_add] at h3
    cases hw : Region.waitsFor .any ops i j with
    | true => exact .one hw
    | false =>
      cases hw2 : wtB ops 7 i j with
      | true => exact wtB_spec hw2
      | false =>
      exfalso
      have hin : j ∈ lateOf ops vops i oi.op := by
        unfold lateOf
        rw [if_pos h1, List.mem_filter]
        refine ⟨List.mem_range.2 hij, ?_⟩
        rw [b2]
        simp only [h2, hw, hw2, Bool.not_false, Bool.and_self]
      rw [List.contains_iff_mem.2 hin] at h3
      cases h3
  · rw [w1, List.length_take]
    exact Nat.le_trans (Nat.min_le_left _ _) hm

end
end Go.Proofs.YtpdnbmnnkefedaaGreatDoor.Vm

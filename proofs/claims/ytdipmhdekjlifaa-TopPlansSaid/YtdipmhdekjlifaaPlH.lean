/- Package plot over the machine: plans, what a right one is. -/
import Derived.Test.YtdipmhdekjlifaaPlG
namespace Go.Proofs.Ytdipmhdekjlifaa.Vm
open Go
set_option maxRecDepth 100000
set_option linter.unusedSimpArgs false
set_option linter.unusedVariables false
attribute [-simp] List.getD_eq_getElem?_getD
def slotE (S : List Int) (J : List Jb) (q : Slt) : Int :=
  if q.d < 0 ∨ (S.length : Int) ≤ q.d ∨ q.j < 0 ∨ (J.length : Int) ≤ q.j then 5
  else if q.m < 1 ∨ q.d < (J.getD q.j.toNat default).r ∨ (J.getD q.j.toNat default).d < q.d then 1 else 0
def firstE (f : Nat → Int) : Nat → Int
  | 0 => 0
  | n + 1 => if firstE f n ≠ 0 then firstE f n else f n
theorem firstE_at {f : Nat → Int} {i : Nat} (h0 : firstE f i = 0) (hf : f i ≠ 0) : ∀ {n : Nat}, i < n → firstE f n = f i
  | n + 1, h => by
    by_cases e : i = n
    · subst e; simp [firstE, h0]
    · simp only [firstE]
      rw [firstE_at h0 hf (n := n) (by omega), if_pos hf]
theorem firstE_zero {f : Nat → Int} : ∀ {n : Nat}, firstE f n = 0 → ∀ {i : Nat}, i < n → f i = 0
  | n + 1, h, i, hi => by
    simp only [firstE] at h
    split at h
    · rename_i hn; exact absurd h hn
    · rename_i hn
      by_cases e : i = n
      · subst e; exact h
      · exact firstE_zero (by simpa using hn) (show i < n by omega)
def sameB (Q : List Slt) (i k : Nat) : Bool := decide ((Q.getD k default).d = (Q.getD i default).d) && decide ((Q.getD k default).j = (Q.getD i default).j)
def capM (q : Slt) : Int := min q.m 40000
def dayS (Q : List Slt) (d : Int) : Nat → Int
  | 0 => 0
  | n + 1 => dayS Q d n + if (Q.getD n default).d = d then capM (Q.getD n default) else 0
def jobS (Q : List Slt) (j : Int) : Nat → Int
  | 0 => 0
  | n + 1 => jobS Q j n + if (Q.getD n default).j = j then capM (Q.getD n default) else 0
def planP (S : List Int) (J : List Jb) (Q : List Slt) : Int :=
  if valJ S J ≠ 0 then valJ S J else if firstE (fun i => slotE S J (Q.getD i default)) Q.length ≠ 0 then firstE (fun i => slotE S J (Q.getD i default)) Q.length
  else if allN (fun i => allN (fun k => !sameB Q i k) i) Q.length = false then 7
  else if allN (fun d => decide (dayS Q d Q.length ≤ S.getD d 0)) S.length = false then 10
  else if allN (fun j => decide (jobS Q j Q.length = (J.getD j default).w)) J.length = false then 6 else 0
theorem slotE_ok {S : List Int} {J : List Jb} {q : Slt} (h : slotE S J q = 0) : (0 ≤ q.d ∧ q.d < S.length) ∧ (0 ≤ q.j ∧ q.j < J.length) ∧ 1 ≤ q.m ∧ (J.getD q.j.toNat default).r ≤ q.d ∧ q.d ≤ (J.getD q.j.toNat default).d := by
  unfold slotE at h
  split at h
  · cases h
  split at h
  · cases h
  omega
theorem dayS_nn {Q : List Slt} {d : Int} : ∀ {n : Nat}, (∀ i, i < n → 1 ≤ (Q.getD i default).m) → 0 ≤ dayS Q d n ∧ dayS Q d n ≤ 40000 * n
  | 0, _ => by simp [dayS]
  | n + 1, h => by
    have ih := dayS_nn (Q := Q) (d := d) (n := n) fun i hi => h i (by omega)
    have hn := h n (by omega)
    simp only [dayS, capM]
    split <;> omega
theorem jobS_nn {Q : List Slt} {d : Int} : ∀ {n : Nat}, (∀ i, i < n → 1 ≤ (Q.getD i default).m) → 0 ≤ jobS Q d n ∧ jobS Q d n ≤ 40000 * n
  | 0, _ => by simp [jobS]
  | n + 1, h => by
    have ih := jobS_nn (Q := Q) (d := d) (n := n) fun i hi => h i (by omega)
    have hn := h n (by omega)
    simp only [jobS, capM]
    split <;> omega
theorem dayS_mono {Q : List Slt} {d : Int} {i : Nat} : ∀ {n : Nat}, (∀ i, i < n → 1 ≤ (Q.getD i default).m) → i ≤ n → dayS Q d i ≤ dayS Q d n
  | 0, _, h => by have : i = 0 := by omega
                  subst this; exact Int.le_refl _
  | n + 1, h, hi => by
    by_cases e : i = n + 1
    · subst e; exact Int.le_refl _
    · have ih := dayS_mono (Q := Q) (d := d) (n := n) (fun i hi => h i (by omega)) (show i ≤ n by omega)
      have hn := h n (by omega)
      simp only [dayS, capM]
      split <;> omega
/-- a day and a commission were there already -/
def tkN (Q : List Slt) : Nat → Nat → Bool
  | 0, _ => false
  | n + 1, c => tkN Q n c || decide (((Q.getD n default).d.toNat * 8 + (Q.getD n default).j.toNat) = c)
theorem tkN_iff {Q : List Slt} {c : Nat} : ∀ {n : Nat}, tkN Q n c = true ↔ ∃ k, k < n ∧ (Q.getD k default).d.toNat * 8 + (Q.getD k default).j.toNat = c
  | 0 => by simp [tkN]
  | n + 1 => by
    simp only [tkN, Bool.or_eq_true, tkN_iff (n := n), decide_eq_true_eq]
    constructor
    · rintro (⟨k, h1, h2⟩ | h)
      · exact ⟨k, by omega, h2⟩
      · exact ⟨n, by omega, h⟩
    · rintro ⟨k, h1, h2⟩
      by_cases e : k = n
      · subst e; exact Or.inr h2
      · exact Or.inl ⟨k, by omega, h2⟩
def tkL (Q : List Slt) (n : Nat) : List V := (List.range 480).map fun c => .bool (tkN Q n c)
theorem tkL_len {Q : List Slt} {n : Nat} : (tkL Q n).length = 480 := by simp [tkL]
theorem tkL_0 {Q : List Slt} : bsV 480 = tkL Q 0 := by
  simp only [bsV, tkL, tkN]
  rw [List.map_const', List.length_range]
theorem tkL_rd {Q : List Slt} {n c : Nat} (h : c < 480) : rd none (tkL Q n) c = some (.bool (tkN Q n c)) := by
  rw [rdN, tkL, List.getElem?_map, List.getElem?_range h]; rfl
theorem tkL_set {Q : List Slt} {n : Nat} (h : (Q.getD n default).d.toNat * 8 + (Q.getD n default).j.toNat < 480) : splice (tkL Q n) ((Q.getD n default).d.toNat * 8 + (Q.getD n default).j.toNat) [.bool true] = tkL Q (n + 1) := by
  apply List.ext_getElem?
  intro c
  have e : splice (tkL Q n) ((Q.getD n default).d.toNat * 8 + (Q.getD n default).j.toNat) [.bool true] = (tkL Q n).set ((Q.getD n default).d.toNat * 8 + (Q.getD n default).j.toNat) (.bool true) := by
    rw [List.set_eq_take_append_cons_drop, if_pos (by rw [tkL_len]; omega)]
    simp [splice]
  rw [e, List.getElem?_set]
  by_cases hc : c < 480
  · simp only [tkL, List.getElem?_map, List.getElem?_range hc, Option.map_some, List.length_map, List.length_range, tkN]
    split
    · rename_i h1; first | (rw [if_pos h]; simp [h1]; done) | simp [h1]
    · rename_i h1; simp [h1]
  · simp only [tkL, List.getElem?_map, List.getElem?_eq_none (show (List.range 480).length ≤ c by simp; omega), Option.map_none]
    rw [if_neg (by omega)]
section
variable {lim : Nat} {H : Hp} {K : V → Hp → Prop} {sv jv qv : V} {S : List Int} {J : List Jb} {Q : List Slt} {x y : Int} {q : Slt}
theorem sl_load (h : LstV slC H qv Q) {i : Nat} (hi : i < Q.length) {L : Lo} : vload (some 3) L H (ept 3 qv i) = some (.agg [.int .i64 (Q.getD i default).d, .int .i64 (Q.getD i default).j, .int .i64 (Q.getD i default).m]) := h.load hi
theorem sl_get (h : LstV slC H qv Q) {i j : Nat} (hi : i < Q.length) (hj : j < 3) {L : Lo} : vload none L H (eptf 3 qv i j) = rd none [.int .i64 (Q.getD i default).d, .int .i64 (Q.getD i default).j, .int .i64 (Q.getD i default).m] j := h.rd1 hi hj
theorem plot_checkSlot (hs : SlV H sv S) (hj : LstV jbC H jv J) (hK : K (.int .i64 (slotE S J q)) H) : VCall tbl lim 70 [sv, jv, .agg q.cells] H K := by
  refine VCall_fn tbl_at70 rfl ?_
  have fa : ∀ i, i < J.length → ∀ j, vfaddr j (ept 3 jv i) = some (eptf 3 jv i j) := fun i hi j => hj.faddr hi
  simp [vf70, Slt.cells, hs.len, hj.len]
  refine cond_bool (fun hb => ?_) fun hb => ?_
  · have : q.d < 0 ∨ (S.length : Int) ≤ q.d ∨ q.j < 0 ∨ (J.length : Int) ≤ q.j := by simp at hb; omega
    simp; simpa [slotE, this] using hK
  have hin : ¬ (q.d < 0 ∨ (S.length : Int) ≤ q.d ∨ q.j < 0 ∨ (J.length : Int) ≤ q.j) := by simp at hb; omega
  simp only [slotE, hin, if_false] at hK
  by_cases h1 : q.m < 1
  · simp (disch := omega) [h1]
    simpa [h1] using hK
  have hjn : q.j.toNat < J.length := by omega
  by_cases h2 : q.d < (J.getD q.j.toNat default).r
  · simp (disch := omega) [h1, hj.addr, fa _ hjn, jb_get hj, lpId_eptf, h2]
    simpa [h1, h2] using hK
  by_cases h3 : (J.getD q.j.toNat default).d < q.d
  · simp (disch := omega) [h1, hj.addr, fa _ hjn, jb_get hj, lpId_eptf, h2, h3]
    simpa [h1, h2, h3] using hK
  · simp (disch := omega) [h1, hj.addr, fa _ hjn, jb_get hj, lpId_eptf, h2, h3]
    simpa [h1, h2, h3] using hK
theorem vapp_e {v y : V} {l : List Int} (hy : SlV H y l) (hlim : lim ≤ H.length) (hl : l.length ≤ 1000) : ∃ v' H', vappend lim 1 8 (H ++ [.row [] true]) (.sl H.length 0 0 1) y = some (v', H') ∧ OwnV H.length H' v' l ∧ HX H H' := by
  have hy2 := hy.mono (H' := H ++ [.row [] true]) HX.push
  refine ⟨.sl (H.length + 1) 0 l.length 1, (H ++ [Blk.row [] true]).set H.length .dead ++ [.row (ints l) true], ?_, .row (by omega) ?_, ?_⟩
  · simp [vappend, hy2.cells, hy2.len, hlim, show l.length * 8 ≤ 140737488355328 by omega, show l.length < 4611686018427387904 by omega]
  · have : H.length + 1 = ((H ++ [Blk.row [] true]).set H.length .dead).length := by simp
    rw [this]; exact List.getElem?_concat_length
  · refine HX.of (by simp <;> omega) fun i hi => ?_
    rw [List.getElem?_append_left (by simp; omega), List.getElem?_set_ne (by omega), List.getElem?_append_left hi]
theorem clone_ints {v : V} {l : List Int} (hv : SlV H v l) (hlim : lim ≤ H.length) (hl : l.length ≤ 1000) (hK : ∀ H' v', HX H H' → OwnV H.length H' v' l → K v' H') : VCall tbl lim 71 [v] H K := by
  refine VCall_fn tbl_at71 rfl ?_
  obtain ⟨v', H', a1, a2, a3⟩ := vapp_e (v := v) (lim := lim) hv hlim hl
  cases hv with
  | nil =>
    simp [vf71]
    exact hK _ _ .refl .nil
  | empty =>
    simp [vf71, a1, a2.sl.stor]
    exact hK _ _ a3 a2
  | sl h1 h2 h3 =>
    simp [vf71, a1, a2.sl.stor]
    exact hK _ _ a3 a2
end
end Go.Proofs.Ytdipmhdekjlifaa.Vm

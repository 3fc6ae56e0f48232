/- The reference's words: flipped, backward. -/
import Derived.Test.YtalejadhccgckaaDoorPkK
namespace Go.Proofs.YtalejadhccgckaaDoor.Vm
open Go
set_option maxRecDepth 100000
set_option linter.unusedSimpArgs false
set_option linter.unusedVariables false
attribute [-simp] List.getD_eq_getElem?_getD

theorem flipped_r {H : Hp} {lim : Nat} {s : ByteArray} {K : V → Hp → Prop} (hv : vld s = true) (hK : ∀ X, K (.str (mp neiF s)) (H ++ X)) : VCall tbl lim 67 [.str s] H K := by
  refine VCall_fn tbl_at67 rfl ?_
  have hb := vld_len hv
  have w1 : IntKind.wrap .u8 98 = 98 := rfl
  have w2 : IntKind.wrap .u8 66 = 66 := rfl
  have w3 : IntKind.wrap .u8 97 = 97 := rfl
  have w4 : IntKind.wrap .u8 65 = 65 := rfl
  simp [vf67]
  refine wLoop_up s.size (fun i fr L H' => (fr 0 = .str s ∧ fr 4 = .int .i64 i) ∧ (∃ t, fr 3 = .str t ∧ t.size = i ∧ ∀ k, k < i → (chT t k : Int) = neiF (chT s k : Nat)) ∧ L = [] ∧ (∃ X, H' = H ++ X) ∧ i ≤ s.size) ⟨by simp, ⟨_, by simp; rfl, rfl, fun k hk => absurd hk (by omega)⟩, rfl, ⟨[], by simp⟩, by omega⟩ ?_
  rintro i hi fr L H' ⟨⟨f0, f4⟩, ⟨t, f3, ht, hq⟩, rfl, ⟨X, rfl⟩, hle⟩
  by_cases hp : i < s.size
  · have hp' : ((i : Int) < (s.size : Int)) = True := eq_true (by omega)
    have hl := vld_at hv hp
    have hx := idxT hp
    have hr : 0 ≤ neiF (chT s i : Nat) ∧ neiF (chT s i : Nat) < 256 := by
      rcases hl with e | e | e | e <;> rw [e] <;> decide
    have ha := vadd_str (a := t) (b := oneB (neiF (chT s i : Nat))) (by rw [ht, oneB_size]; omega)
    have hs1 := vstrB_one (H := H ++ X) (n := neiF (chT s i : Nat))
    simp only [List.append_assoc, List.length_append] at hs1
    have fin : ∀ k, k < i + 1 → (chT (t ++ oneB (neiF (chT s i : Nat))) k : Int) = neiF (chT s k : Nat) := by
      intro k hk
      rw [chT_snoc hr (by omega)]
      split
      · rename_i h; exact hq k (by omega)
      · rename_i h
        have : k = i := by omega
        rw [this]
    have hsz : (t ++ oneB (neiF (chT s i : Nat))).size = i + 1 := by rw [size_app, ht]; rfl
    have n1 : neiF ((97 : Nat) : Int) = 98 := rfl
    have n2 : neiF ((65 : Nat) : Int) = 66 := rfl
    have n3 : neiF ((98 : Nat) : Int) = 97 := rfl
    have n4 : neiF ((66 : Nat) : Int) = 65 := rfl
    generalize hT : t ++ oneB (neiF (chT s i : Nat)) = t' at ha fin hsz
    rcases hl with e | e | e | e <;> rw [e] at hx ha hs1 <;> simp only [n1, n2, n3, n4] at ha hs1 <;>
      simp (disch := omega) [f0, f3, f4, hp', hx, splice, hs1, ha, wrap_i64, w1, w2, w3, w4] <;> exact ⟨hp, ⟨hsz, fin⟩, hp⟩
  · have hp' : ((i : Int) < (s.size : Int)) = False := eq_false (by omega)
    have hi : i = s.size := by omega
    simp [f0, f3, f4, hp']
    rw [mp_of (F := neiF) (s := s) (t := t) (by omega) (fun k hk => hq k (by omega))]
    exact hK X
/-- backward -/
def rvB (s : ByteArray) : ByteArray := ⟨(s.data.toList.reverse).toArray⟩
theorem rvB_size {s : ByteArray} : (rvB s).size = s.size := by
  show ((s.data.toList.reverse).toArray).size = s.data.size
  simp
theorem chT_rvB {s : ByteArray} {k : Nat} (h : k < s.size) : chT (rvB s) k = chT s (s.size - 1 - k) := by
  have h' : k < s.data.size := h
  have e : s.size = s.data.size := rfl
  simp only [chT, rvB, Array.getD_eq_getD_getElem?, List.getElem?_toArray]
  rw [List.getElem?_reverse (by simpa using h'), Array.length_toList, Array.getElem?_toList, e]
theorem rvB_of {s t : ByteArray} (h : t.size = s.size) (hc : ∀ k, k < s.size → chT t k = chT s (s.size - 1 - k)) : t = rvB s :=
  ba_ext (by rw [rvB_size, h]) fun k hk => by rw [hc k (by omega), chT_rvB (by omega)]
theorem chT_cut {s : ByteArray} {i : Nat} (h : i < s.size) : (s.extract i (i + 1)).size = 1 ∧ chT (s.extract i (i + 1)) 0 = chT s i := by
  have h' : i < s.data.size := h
  refine ⟨by rw [ByteArray.size_extract]; omega, ?_⟩
  simp only [chT, ByteArray.data_extract, Array.getD_eq_getD_getElem?, Array.getElem?_extract]
  rw [if_pos (by omega)]; rfl
theorem backward_r {H : Hp} {lim : Nat} {s : ByteArray} {K : V → Hp → Prop} (hb : s.size ≤ 60) (hK : K (.str (rvB s)) H) : VCall tbl lim 63 [.str s] H K := by
  refine VCall_fn tbl_at63 rfl ?_
  simp [vf63]
  refine wLoop_up s.size (fun i fr L H' => (fr 0 = .str s ∧ fr 4 = .int .i64 i) ∧ (∃ t, fr 3 = .str t ∧ t.size = i ∧ ∀ k, k < i → chT t k = chT s (i - 1 - k)) ∧ L = [] ∧ H' = H ∧ i ≤ s.size) ⟨by simp, ⟨_, by simp; rfl, rfl, fun k hk => absurd hk (by omega)⟩, rfl, rfl, by omega⟩ ?_
  rintro i hi fr L H' ⟨⟨f0, f4⟩, ⟨t, f3, ht, hq⟩, rfl, rfl, hle⟩
  by_cases hp : i < s.size
  · have hp' : ((i : Int) < (s.size : Int)) = True := eq_true (by omega)
    obtain ⟨c1, c2⟩ := chT_cut hp
    have hsl : vslT (.str s) (some (.int .i64 (i : Int))) (some (.int .i64 ((i : Int) + 1))) = some (.str (s.extract i (i + 1))) := by
      simp only [vslT, vbounds, vint]
      rw [if_pos (by omega), if_pos (by omega)]
      have e1 : ((i : Int) + 1).toNat = i + 1 := by omega
      simp [e1]
    have ha := vadd_str (a := s.extract i (i + 1)) (b := t) (by rw [c1, ht]; omega)
    have hsz : (s.extract i (i + 1) ++ t).size = i + 1 := by rw [size_app, c1, ht]; omega
    have fin : ∀ k, k < i + 1 → chT (s.extract i (i + 1) ++ t) k = chT s (i + 1 - 1 - k) := by
      intro k hk
      rw [chT_app, c1]
      split
      · have : k = 0 := by omega
        subst this
        rw [c2]; congr 1
      · rw [hq (k - 1) (by omega)]; congr 1; omega
    generalize s.extract i (i + 1) ++ t = t' at ha fin hsz
    simp (disch := omega) [f0, f3, f4, hp', hsl, ha, wrap_i64]
    exact ⟨hp, ⟨hsz, by simpa using fin⟩, hp⟩
  · have hp' : ((i : Int) < (s.size : Int)) = False := eq_false (by omega)
    have hi : i = s.size := by omega
    simp [f0, f3, f4, hp']
    rw [← rvB_of (s := s) (t := t) (by omega) (fun k hk => by rw [hq k (by omega)]; congr 1; omega)] at hK
    exact hK
end Go.Proofs.YtalejadhccgckaaDoor.Vm

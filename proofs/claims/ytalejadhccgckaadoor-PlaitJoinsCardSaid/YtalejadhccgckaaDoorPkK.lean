/- The reference's words: exchanged, backward. -/
import Derived.Test.YtalejadhccgckaaDoorPkJ
namespace Go.Proofs.YtalejadhccgckaaDoor.Vm
open Go
set_option maxRecDepth 100000
set_option linter.unusedSimpArgs false
set_option linter.unusedVariables false
attribute [-simp] List.getD_eq_getElem?_getD

/-- a text of one byte -/
def oneB (n : Int) : ByteArray := ⟨#[UInt8.ofNat n.toNat]⟩
theorem oneB_size {n : Int} : (oneB n).size = 1 := rfl
theorem chT_oneB {n : Int} (h : 0 ≤ n) (h2 : n < 256) : (chT (oneB n) 0 : Int) = n := by
  simp [chT, oneB, Array.getD_eq_getD_getElem?]; omega
theorem vstrB_one {H : Hp} {n : Int} : vstrB (H ++ [.row [.int .u8 n] true]) (.sl H.length 0 1 1) = some (.str (oneB n)) := by
  simp [vstrB, vcells, bytesOf, byteOf, oneB]
theorem opp_r {H : Hp} {lim : Nat} {l : Nat} {K : V → Hp → Prop} (hl : l = 97 ∨ l = 65 ∨ l = 98 ∨ l = 66) (hK : K (.int .u8 (oppF l)) H) : VCall tbl lim 56 [.int .u8 l] H K := by
  refine VCall_fn tbl_at56 rfl ?_
  rcases hl with rfl | rfl | rfl | rfl <;> simp [vf56, oppF] at hK ⊢ <;> exact hK
theorem mp_of {F : Int → Int} {s t : ByteArray} (h : t.size = s.size) (hc : ∀ k, k < s.size → (chT t k : Int) = F (chT s k : Nat)) : t = mp F s := by
  refine ba_ext (by rw [mp_size, h]) fun k hk => ?_
  have hk' : k < s.size := by omega
  have e := hc k hk'
  have hlt := chT_lt (s := t) (i := k)
  rw [chT_mp hk' (by omega)]
  omega
theorem chT_snoc {t : ByteArray} {n : Int} {k : Nat} (h : 0 ≤ n ∧ n < 256) (hk : k < t.size + 1) : (chT (t ++ oneB n) k : Int) = if k < t.size then (chT t k : Int) else n := by
  rw [chT_app]
  split
  · rfl
  · have : k - t.size = 0 := by omega
    rw [this]; exact chT_oneB h.1 h.2
theorem swapped_r {H : Hp} {lim : Nat} {s : ByteArray} {K : V → Hp → Prop} (hv : vld s = true) (hK : ∀ X, K (.str (mp oppF s)) (H ++ X)) : VCall tbl lim 64 [.str s] H K := by
  refine VCall_fn tbl_at64 rfl ?_
  have hb := vld_len hv
  simp [vf64]
  refine wLoop_up s.size (fun i fr L H' => (fr 0 = .str s ∧ fr 4 = .int .i64 i) ∧ (∃ t, fr 3 = .str t ∧ t.size = i ∧ ∀ k, k < i → (chT t k : Int) = oppF (chT s k : Nat)) ∧ L = [] ∧ (∃ X, H' = H ++ X) ∧ i ≤ s.size) ⟨by simp, ⟨_, by simp; rfl, rfl, fun k hk => absurd hk (by omega)⟩, rfl, ⟨[], by simp⟩, by omega⟩ ?_
  rintro i hi fr L H' ⟨⟨f0, f4⟩, ⟨t, f3, ht, hq⟩, rfl, ⟨X, rfl⟩, hle⟩
  by_cases hp : i < s.size
  · have hp' : ((i : Int) < (s.size : Int)) = True := eq_true (by omega)
    have hl := vld_at hv hp
    have hx := idxT hp
    have hr : 0 ≤ oppF (chT s i : Nat) ∧ oppF (chT s i : Nat) < 256 := by
      rcases hl with e | e | e | e <;> rw [e] <;> decide
    simp [f0, f3, f4, hp', hx]
    refine opp_r hl ?_
    have ha := vadd_str (a := t) (b := oneB (oppF (chT s i : Nat))) (by rw [ht, oneB_size]; omega)
    have hs1 := vstrB_one (H := H ++ X) (n := oppF (chT s i : Nat))
    simp only [List.append_assoc, List.length_append] at hs1
    simp (disch := omega) [f0, f3, f4, splice, hs1, ha, wrap_i64]
    refine ⟨hp, ?_, hp⟩
    refine ⟨by rw [ht]; rfl, fun k hk => ?_⟩
    rw [chT_snoc hr (by omega)]
    split
    · rename_i h; exact hq k (by omega)
    · rename_i h
      have : k = i := by omega
      rw [this]
  · have hp' : ((i : Int) < (s.size : Int)) = False := eq_false (by omega)
    have hi : i = s.size := by omega
    simp [f0, f3, f4, hp']
    rw [mp_of (F := oppF) (s := s) (t := t) (by omega) (fun k hk => hq k (by omega))]
    exact hK X
end Go.Proofs.YtalejadhccgckaaDoor.Vm

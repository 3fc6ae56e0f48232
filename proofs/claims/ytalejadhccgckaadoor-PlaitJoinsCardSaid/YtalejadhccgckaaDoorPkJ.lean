/- Exchanged letters: of the program (strings.Map) and of the reference. -/
import Derived.Test.YtalejadhccgckaaDoorPkD
namespace Go.Proofs.YtalejadhccgckaaDoor.Vm
open Go
set_option maxRecDepth 100000
set_option linter.unusedSimpArgs false
set_option linter.unusedVariables false
attribute [-simp] List.getD_eq_getElem?_getD

theorem ba_ext {s t : ByteArray} (h : s.size = t.size) (hc : ∀ i, i < s.size → chT s i = chT t i) : s = t := by
  obtain ⟨a⟩ := s
  obtain ⟨b⟩ := t
  congr 1
  refine Array.ext h fun i h1 h2 => ?_
  have := hc i h1
  simp only [chT, Array.getD_eq_getD_getElem?, Array.getElem?_eq_getElem h1, Array.getElem?_eq_getElem h2, Option.getD_some] at this
  exact UInt8.toNat_inj.1 this
/-- each letter exchanged -/
def mp (F : Int → Int) (s : ByteArray) : ByteArray := ⟨(s.data.toList.map fun b => (F (b.toNat : Nat)).toNat.toUInt8).toArray⟩
theorem mp_size {F : Int → Int} {s : ByteArray} : (mp F s).size = s.size := by
  show ((s.data.toList.map _).toArray).size = s.data.size
  simp
theorem chT_mp {F : Int → Int} {s : ByteArray} {i : Nat} (h : i < s.size) (hF : (F (chT s i : Nat)).toNat < 256) : chT (mp F s) i = (F (chT s i : Nat)).toNat := by
  have h' : i < s.data.size := h
  have e : chT s i = (s.data[i]).toNat := by simp [chT, Array.getD_eq_getD_getElem?, Array.getElem?_eq_getElem h']
  have h2 : i < (mp F s).data.size := by
    have := mp_size (F := F) (s := s)
    have e2 : (mp F s).size = (mp F s).data.size := rfl
    omega
  have e3 : (mp F s).data[i] = (F (s.data[i].toNat : Nat)).toNat.toUInt8 := by simp [mp]
  have e4 : chT (mp F s) i = ((mp F s).data[i]).toNat := by simp [chT, Array.getD_eq_getD_getElem?, Array.getElem?_eq_getElem h2]
  rw [e4, e3, e]
  rw [e] at hF
  simp; omega
/-- what the shelf says of letters -/
theorem mapD_let {F : Int → Int} (hF : ∀ n : Nat, isL n = true → 0 ≤ F n ∧ F n ≤ 127) : ∀ l : List UInt8, (∀ b ∈ l, isL b.toNat = true) → Lib.mapD F l = l.map fun b => (F (b.toNat : Nat)).toNat.toUInt8
  | [], _ => by simp [Lib.mapD, Lib.mapGoD]
  | b :: l, h => by
    have ih := mapD_let hF l fun c hc => h c (by simp [hc])
    have hb := h b (by simp)
    have hlt : b.toNat < 128 := by
      simp only [isL, Bool.or_eq_true, decide_eq_true_eq] at hb; omega
    have hd : Lib.decodeL (b :: l) = (b.toNat, 1) := by
      unfold Lib.decodeL
      have e : chT ⟨(b :: l).toArray⟩ 0 = b.toNat := by simp [chT, Array.getD_eq_getD_getElem?]
      rw [dec_lt (by rw [e]; exact hlt), e]
    have hr := hF _ hb
    have he : Lib.encodeRune (F (b.toNat : Nat)) = [(F (b.toNat : Nat)).toNat.toUInt8] := by
      unfold Lib.encodeRune
      rw [Lib.encodeRuneZ_one hr.1 hr.2]; rfl
    unfold Lib.mapD at ih ⊢
    simp only [List.length_cons, Lib.mapGoD, hd, List.drop_one, List.tail_cons, List.map_cons]
    rw [if_neg (by simp), if_pos hr.1, he, ih]
    rfl
theorem vld_all {s : ByteArray} (h : vld s = true) : ∀ b ∈ s.data.toList, isL b.toNat = true := by
  intro b hb
  obtain ⟨i, hi, rfl⟩ := List.getElem_of_mem hb
  simp only [vld, Bool.and_eq_true] at h
  have hi' : i < s.data.size := by simpa using hi
  have := allN_at h.1 (i := i) hi'
  simpa [letB, chT, Array.getD_eq_getD_getElem?, Array.getElem?_eq_getElem hi'] using this
theorem oppF_let {n : Nat} (h : isL n = true) : 0 ≤ oppF n ∧ oppF n ≤ 127 ∧ isL (oppF n).toNat = true := by
  simp only [isL, Bool.or_eq_true, decide_eq_true_eq] at h
  rcases h with ((rfl | rfl) | rfl) | rfl <;> decide
theorem neiF_let {n : Nat} (h : isL n = true) : 0 ≤ neiF n ∧ neiF n ≤ 127 ∧ isL (neiF n).toNat = true := by
  simp only [isL, Bool.or_eq_true, decide_eq_true_eq] at h
  rcases h with ((rfl | rfl) | rfl) | rfl <;> decide
theorem mirror_t {H : Hp} {lim : Nat} {s : ByteArray} {K : V → Hp → Prop} (hc : chkU8 H = true) (hv : vld s = true) (hK : K (.str (mp oppF s)) H) : VCall tbl lim 65 [.str s] H K := by
  refine VCall_fn tbl_at65 rfl ?_
  simp [vf65]
  have hb := vld_len hv
  have e : (⟨(Lib.mapD oppF s.data.toList).toArray⟩ : ByteArray) = mp oppF s := by
    rw [mapD_let (fun n h => ⟨(oppF_let h).1, (oppF_let h).2.1⟩) _ (vld_all hv)]; rfl
  refine VCall_prim (g := pMap) (bs := []) tbl_at86 rfl rfl (v := .str (mp oppF s)) ?_ ?_
  · simp [pMap, flatP, hc, flatV, gMap, flatT, show s.size < 35184372088832 by omega, e]
  · simp; exact hK
theorem flip_t {H : Hp} {lim : Nat} {s : ByteArray} {K : V → Hp → Prop} (hc : chkU8 H = true) (hv : vld s = true) (hK : K (.str (mp neiF s)) H) : VCall tbl lim 66 [.str s] H K := by
  refine VCall_fn tbl_at66 rfl ?_
  simp [vf66]
  have hb := vld_len hv
  have e : (⟨(Lib.mapD neiF s.data.toList).toArray⟩ : ByteArray) = mp neiF s := by
    rw [mapD_let (fun n h => ⟨(neiF_let h).1, (neiF_let h).2.1⟩) _ (vld_all hv)]; rfl
  refine VCall_prim (g := pMap) (bs := []) tbl_at86 rfl rfl (v := .str (mp neiF s)) ?_ ?_
  · simp [pMap, flatP, hc, flatV, gMap, flatT, show s.size < 35184372088832 by omega, e]
  · simp; exact hK
end Go.Proofs.YtalejadhccgckaaDoor.Vm

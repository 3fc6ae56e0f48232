/- Crossings, Rings, of both. -/
import Derived.Test.YtalejadhccgckaaDoorPkG
namespace Go.Proofs.YtalejadhccgckaaDoor.Vm
open Go
set_option maxRecDepth 100000
set_option linter.unusedSimpArgs false
set_option linter.unusedVariables false
attribute [-simp] List.getD_eq_getElem?_getD

/-- one round of a loop -/
theorem wLoop_once {T : Tbl} {lim : Nat} {body : VCode} {Q : VExit → St → Prop} {s : St} (h : wCode T lim body (seqQ (wCode T lim (.loop body) Q) Q) s) : wCode T lim (.loop body) Q s := by
  obtain ⟨k', e, s', h1, h2⟩ := wCode_sound h
  show wSem T lim (.loop body) Q s
  cases e with
  | normal =>
    obtain ⟨j, e', s'', h3, h4⟩ := h2
    refine ⟨max k' j + 1, e', s'', ?_, h4⟩
    simp only [evCode, evCode_le (evFn_le T (show k' ≤ max k' j + 1 by omega)) (show k' ≤ max k' j by omega) h1]
    exact evCode_le (evFn_le T (show j ≤ max k' j + 1 by omega)) (show j ≤ max k' j by omega) h3
  | exit id => exact ⟨k' + 1, .exit id, s', by simp only [evCode, evCode_le (evFn_le T (Nat.le_succ k')) (Nat.le_refl k') h1], h2⟩
  | ret => exact ⟨k' + 1, .ret, s', by simp only [evCode, evCode_le (evFn_le T (Nat.le_succ k')) (Nat.le_refl k') h1], h2⟩

def cntL (g : Nat → Nat) : Nat → Int
  | 0 => 0
  | n + 1 => if g n = 97 ∨ g n = 98 then cntL g n + 1 else cntL g n - 1
theorem cntL_bd {g : Nat → Nat} : ∀ n : Nat, -(n : Int) ≤ cntL g n ∧ cntL g n ≤ n
  | 0 => by simp [cntL]
  | n + 1 => by
    have := cntL_bd (g := g) n
    unfold cntL
    split <;> omega
def croV (s : ByteArray) : V := if vld s then .tup [.int .i64 (cntL (chT s) s.size), .int .i64 0] else .tup [.int .i64 0, .int .i64 1]
theorem cross_t {H : Hp} {lim : Nat} {s : ByteArray} {K : V → Hp → Prop} (hlim : lim ≤ H.length) (hK : ∀ X, K (croV s) (H ++ X)) : VCall tbl lim 38 [.str s] H K := by
  refine VCall_fn tbl_at38 rfl ?_
  simp [vf38]
  refine valid_t hlim fun X => ?_
  replace hK : ∀ Y, K (croV s) ((H ++ X) ++ Y) := fun Y => by rw [List.append_assoc]; exact hK _
  have hlim : lim ≤ (H ++ X).length := by simp; omega
  generalize H ++ X = H1 at hK hlim
  unfold croV at hK
  cases hv : vld s with
  | false =>
    simp [hv] at hK ⊢
    have := hK []
    simpa using this
  | true =>
    have hb := vld_len hv
    simp [hv] at hK ⊢
    refine wLoop_up s.size (fun i fr L H' => (fr 0 = .str s ∧ fr 3 = .int .i64 0 ∧ fr 4 = .int .i64 (cntL (chT s) i) ∧ fr 13 = .it H1.length) ∧ L = [] ∧ H' = H1 ++ [.sit s i] ∧ i ≤ s.size) ⟨by simp [cntL], rfl, rfl, by omega⟩ ?_
    rintro i hi fr L H' ⟨⟨f0, f3, f4, f13⟩, rfl, rfl, hle⟩
    by_cases hp : i < s.size
    · have hn := vnext_some (H := H1) (lim := lim) hlim hp
      have hl := vld_at hv hp
      have hd : Utf8.decode s i = (chT s i, 1) := dec_lt (by omega)
      rw [hd] at hn
      simp only at hn
      have hc := cntL_bd (g := chT s) i
      have hs1 : cntL (chT s) (i + 1) = if chT s i = 97 ∨ chT s i = 98 then cntL (chT s) i + 1 else cntL (chT s) i - 1 := rfl
      rw [hs1]
      generalize cntL (chT s) i = n at f4 hc
      simp [f0, f13, hn]
      refine crossing_t hl ?_
      rcases hl with e | e | e | e <;> rw [e] <;> simp (disch := omega) [f0, f3, f4, f13, wrap_i64] <;> exact ⟨hp, by omega⟩
    · have hn := vnext_end (H := H1) (lim := lim) hlim hp
      have hi : i = s.size := by omega
      subst hi
      simp [f0, f3, f4, f13, hn]
      exact hK _
theorem cross_r {H : Hp} {lim : Nat} {s : ByteArray} {K : V → Hp → Prop} (hs : s.size ≤ 1000000) (hK : K (croV s) H) : VCall tbl lim 39 [.str s] H K := by
  refine VCall_fn tbl_at39 rfl ?_
  simp [vf39]
  refine valid_r hs ?_
  unfold croV at hK
  cases hv : vld s with
  | false =>
    simp [hv] at hK ⊢
    exact hK
  | true =>
    have hb := vld_len hv
    simp [hv] at hK ⊢
    refine VCall_fn tbl_at71 rfl ?_
    simp [vf71]
    refine wLoop_up s.size (fun i fr L H' => (fr 0 = .str s ∧ fr 3 = .int .i64 (cntL (chT s) i) ∧ fr 4 = .int .i64 i) ∧ L = [] ∧ H' = H ∧ i ≤ s.size) ⟨by simp [cntL], rfl, rfl, by omega⟩ ?_
    rintro i hi fr L H' ⟨⟨f0, f3, f4⟩, rfl, rfl, hle⟩
    by_cases hp : i < s.size
    · have hp' : ((i : Int) < (s.size : Int)) = True := eq_true (by omega)
      have hl := vld_at hv hp
      have hx := idxT hp
      have hc := cntL_bd (g := chT s) i
      have hs1 : cntL (chT s) (i + 1) = if chT s i = 97 ∨ chT s i = 98 then cntL (chT s) i + 1 else cntL (chT s) i - 1 := rfl
      rw [hs1]
      generalize cntL (chT s) i = n at f3 hc
      rcases hl with e | e | e | e <;> rw [e] at hx ⊢ <;> simp (disch := omega) [f0, f3, f4, hp', hx, wrap_i64] <;> exact ⟨hp, by omega⟩
    · have hp' : ((i : Int) < (s.size : Int)) = False := eq_false (by omega)
      have hi : i = s.size := by omega
      subst hi
      simp [f0, f3, f4, hp']
      exact hK
/-- how many rings -/
def ringN (f : F9) : Int := if on f.a 0 + on f.b 1 + on f.c 2 = 3 then 3 else if on f.a 0 + on f.b 1 + on f.c 2 = 1 then 2 else 1
def rinV (s : ByteArray) : V := if vld s then .tup [.int .i64 (ringN (fol (chT s) s.size)), .int .i64 0] else .tup [.int .i64 0, .int .i64 1]
theorem rings_t {H : Hp} {lim : Nat} {s : ByteArray} {K : V → Hp → Prop} (hlim : lim ≤ H.length) (hK : ∀ X, K (rinV s) (H ++ X)) : VCall tbl lim 36 [.str s] H K := by
  refine VCall_fn tbl_at36 rfl ?_
  simp [vf36, iz3]
  refine ends_t hlim fun X => ?_
  unfold rinV at hK
  unfold endV
  cases hv : vld s with
  | false =>
    simp [hv] at hK ⊢
    try simp [splice]
    exact hK X
  | true =>
    simp [hv] at hK ⊢
    obtain ⟨hP, hS⟩ := fol_ok (g := chT s) s.size
    generalize fol (chT s) s.size = f at hP hS hK
    obtain ⟨a, b, c, x, y, z, p, q, r⟩ := f
    simp only [P6, Sum] at hP hS
    clear hS
    rcases hP with ⟨rfl, rfl, rfl⟩ | ⟨rfl, rfl, rfl⟩ | ⟨rfl, rfl, rfl⟩ | ⟨rfl, rfl, rfl⟩ | ⟨rfl, rfl, rfl⟩ | ⟨rfl, rfl, rfl⟩ <;>
      simp [ringN, on] at hK <;> simp [F9.E, en, splice] <;>
      (repeat (refine wLoop_once ?_; simp (disch := omega) [rd3a, rd3b, rd3c, splice, wrap_i64])) <;> exact hK _
theorem rings_r {H : Hp} {lim : Nat} {s : ByteArray} {K : V → Hp → Prop} (hs : s.size ≤ 1000000) (hK : K (rinV s) H) : VCall tbl lim 37 [.str s] H K := by
  refine VCall_fn tbl_at37 rfl ?_
  simp [vf37, iz3]
  refine ends_r hs ?_
  unfold rinV at hK
  unfold endV
  cases hv : vld s with
  | false =>
    simp [hv] at hK ⊢
    try simp [splice]
    exact hK
  | true =>
    simp [hv] at hK ⊢
    obtain ⟨hP, hS⟩ := fol_ok (g := chT s) s.size
    generalize fol (chT s) s.size = f at hP hS hK
    obtain ⟨a, b, c, x, y, z, p, q, r⟩ := f
    simp only [P6, Sum] at hP hS
    clear hS
    rcases hP with ⟨rfl, rfl, rfl⟩ | ⟨rfl, rfl, rfl⟩ | ⟨rfl, rfl, rfl⟩ | ⟨rfl, rfl, rfl⟩ | ⟨rfl, rfl, rfl⟩ | ⟨rfl, rfl, rfl⟩ <;>
      simp [ringN, on] at hK <;> simp [F9.E, en, splice] <;>
      (repeat (refine wLoop_once ?_; simp (disch := omega) [rd3a, rd3b, rd3c, splice, wrap_i64])) <;> exact hK
end Go.Proofs.YtalejadhccgckaaDoor.Vm

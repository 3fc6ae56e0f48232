/- The workroom: known() answers true. -/
import Derived.Test.YtpdnbmnnkefedaaGreatDoorRnK
namespace Go.Proofs.YtpdnbmnnkefedaaGreatDoor.Vm
open Go
set_option maxRecDepth 100000
set_option maxHeartbeats 1000000
set_option linter.unusedSimpArgs false
set_option linter.unusedVariables false
attribute [-simp] List.getD_eq_getElem?_getD
theorem vstep {T0 T : Tbl} {n lim : Nat} {f : FuncId} {G H0 H1 H' : Hp} {args args' : List V} {v : V} {K : V → Hp → Prop} (hT : ShT G T0 T) (h : evFn T0 n 0 f args H0 = some (v, H1)) (hlim : lim ≤ G.length)
    (ea : args' = shs G.length args) (eh : H' = shH G H0) (hK : K (sh G.length v) (shH G H1)) : VCall T lim f args' H' K := by
  subst ea eh
  exact ⟨n, _, _, evFn_sh (G := G) T hT n 0 lim f args H0 _ _ (by omega) h, hK⟩
abbrev kTexts : List V := [.str ⟨#[98, 117, 121, 32, 97, 32, 49, 48, 32, 49, 48, 48, 32, 50, 52, 48]⟩, .str ⟨#[119, 105, 103, 32, 119, 32, 97, 32, 54, 48, 32, 56]⟩, .str ⟨#[107, 110, 111, 116, 32, 119, 32, 54, 48]⟩, .str ⟨#[108, 101, 110, 100, 32, 119]⟩, .str ⟨#[98, 97, 99, 107, 32, 119, 32, 53]⟩]
theorem k_row1 : kH1 = kH0 ++ [.row kTexts true] := rfl
section
variable {lim : Nat} {G : Hp} {K : V → Hp → Prop}
theorem k_text {H : Hp} (h : H[1]? = some (.row kTexts true)) {i : Nat} {t : V} (hi : kTexts[i]? = some t) (ht : sh G.length t = t) {L : Lo} : vload none L (shH G H) (.ptr (G.length + 1) i) = some t := by
  have e1 : (shH G H)[G.length + 1]? = some (.row (shs G.length kTexts) true) := by
    rw [Nat.add_comm, shH_get, h]; simp [shB]
  have e2 : (shs G.length kTexts)[i]? = some t := by rw [shs_map, List.getElem?_map, hi]; simp [ht]
  have e3 : i < (shs G.length kTexts).length := (List.getElem?_eq_some_iff.1 e2).1
  simp [vload, e1, rd]
  refine ⟨e3, ?_⟩
  rw [List.getD_eq_getElem?_getD, e2]; rfl
/-- the heap behind so many orders -/
def kHn : Nat → Hp
  | 0 => kH1 | 1 => kH2 | 2 => kH3 | 3 => kH4 | 4 => kH5 | _ => kH6
theorem kHn_row : ∀ i, i ≤ 5 → (kHn i)[1]? = some (.row kTexts true)
  | 0, _ => by kernel_rfl
  | 1, _ => by kernel_rfl
  | 2, _ => by kernel_rfl
  | 3, _ => by kernel_rfl
  | 4, _ => by kernel_rfl
  | 5, _ => by kernel_rfl
  | _ + 6, h => by omega
theorem kHn_step : ∀ i, i < 5 → ∃ t, kTexts[i]? = some t ∧ (∀ d, sh d t = t) ∧ stor t = true ∧ evFn (knT tbl qR) 400 0 12 [.ptr 0 0, t] (kHn i) = some (.int .i64 0, kHn (i + 1))
  | 0, _ => ⟨_, rfl, fun _ => rfl, rfl, ks2⟩
  | 1, _ => ⟨_, rfl, fun _ => rfl, rfl, ks3⟩
  | 2, _ => ⟨_, rfl, fun _ => rfl, rfl, ks4⟩
  | 3, _ => ⟨_, rfl, fun _ => rfl, rfl, ks5⟩
  | 4, _ => ⟨_, rfl, fun _ => rfl, rfl, ks6⟩
  | _ + 5, h => by omega
theorem law_known (hc : chkE G = true) (hp : chkP G = true) (hlim : lim ≤ G.length) (hK : ∀ H', K (.bool true) H') : VCall tbl lim 23 [] G K := by
  have hT := sh_qR hc hp
  refine VCall_fn tbl_at23 rfl ?_
  simp [vf23]
  refine vstep hT ks0 hlim rfl (by simp [shH]) ?_
  simp [sh, splice]
  have hl0 : (shH G kH0).length = G.length + 1 := by rw [shH_len, Nat.add_comm]; rfl
  rw [show (shH G kH0 ++ [Blk.row kTexts true]) = shH G kH1 from by simp [k_row1, shH, shB, shs, sh]]
  refine wLoop_up 5 (fun i fr L H' => (fr 1 = .ptr G.length 0 ∧ fr 2 = .sl (G.length + 1) 0 5 1 ∧ fr 3 = .int .i64 i) ∧ L = [] ∧ H' = shH G (kHn i)) ⟨by simp [hl0], rfl, rfl⟩ ?_
  rintro i hi fr L H' ⟨⟨f1, f2, f3⟩, rfl, rfl⟩
  simp [f1, f2, f3]
  refine cond_dec (fun ht => ?_) fun hfl => ?_
  · have ht : i < 5 := by omega
    obtain ⟨t, t1, t2, t4, t3⟩ := kHn_step i ht
    have ha : viaddrS 1 (.sl (G.length + 1) 0 5 1) (.int .i64 (i : Int)) = some (.ptr (G.length + 1) i) := by
      simp [viaddrS]; omega
    have hld := fun L => k_text (G := G) (L := L) (kHn_row i (by omega)) t1 (t2 _)
    simp [f1, f2, f3, ha, hld, t4, -vload_ptrO]
    refine vstep hT t3 hlim (show [V.ptr G.length 0, t] = shs G.length [.ptr 0 0, t] by simp [shs, sh, t2]) rfl ?_
    simp (disch := omega) [f1, f2, f3, sh, wrap_i64]
    omega
  · have : i = 5 := by omega
    subst this
    simp [f1, f2, f3]
    refine vstep hT ks7 hlim (show _ = shs G.length _ by simp [shs, sh]) rfl ?_
    simp [f1, f2, f3, sh, shs]
    refine vstep hT ks8 hlim (show _ = shs G.length _ by simp [shs, sh]) rfl ?_
    simp [f1, f2, f3, sh, shs]
    refine vstep hT ks9 hlim (show _ = shs G.length _ by simp [shs, sh]) rfl ?_
    simp [f1, f2, f3, sh, shs]
    refine vstep hT ks10 hlim (show _ = shs G.length _ by simp [shs, sh]) rfl ?_
    simp [f1, f2, f3, sh, shs]
    refine vstep hT ks11 hlim (show _ = shs G.length _ by simp [shs, sh]) rfl ?_
    simp [f1, f2, f3, sh, shs]
    refine vstep hT ks12 hlim (show _ = shs G.length _ by simp [shs, sh]) rfl ?_
    simp [f1, f2, f3, sh, shs]
    exact hK _
end
end Go.Proofs.YtpdnbmnnkefedaaGreatDoor.Vm

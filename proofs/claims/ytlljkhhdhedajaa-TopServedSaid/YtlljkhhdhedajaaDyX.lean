/- No gifts that are accepted serve more than the most; sequences of baths (for TopServed). -/
import Derived.Test.YtlljkhhdhedajaaDyW
import Derived.Test.YtlljkhhdhedajaaDyI
namespace Go.Proofs.Ytlljkhhdhedajaa.Vm
open Go
set_option maxRecDepth 100000
set_option linter.unusedSimpArgs false
set_option linter.unusedVariables false
set_option maxHeartbeats 1000000
attribute [-simp] List.getD_eq_getElem?_getD
/-- what a want was given of a lot by the first gifts -/
def gvG (G : List Gft) (w l : Nat) : Nat → Int
  | 0 => 0
  | i + 1 => gvG G w l i + if (G.getD i default).w = (w : Int) ∧ (G.getD i default).l = (l : Int) then (G.getD i default).n else 0
theorem su_ix {x y : Int} {m : Nat} : su (fun i => if x = (i : Int) then y else 0) m = if 0 ≤ x ∧ x < m then y else 0 := by
  by_cases h : 0 ≤ x ∧ x < m
  · rw [if_pos h]
    obtain ⟨k, rfl⟩ : ∃ k : Nat, x = k := ⟨x.toNat, by omega⟩
    have := su_upd (f := fun _ => 0) (k := k) (x := y) (n := m)
    rw [if_pos (by omega), su_zero fun _ _ => rfl] at this
    rw [show (fun i : Nat => if (k : Int) = (i : Int) then y else 0) = fun i => if i = k then y else 0 from funext fun i => by
      by_cases e : i = k
      · subst e; simp
      · rw [if_neg e, if_neg (by omega)]]
    rw [this]; omega
  · rw [if_neg h]
    exact su_zero fun i hi => by rw [if_neg (by omega)]
section
variable {A : List Lot} {B : List Wnt} {G : List Gft}
theorem gv_ok {w l : Nat} : ∀ {i : Nat}, firstE A B G i = 0 → 0 ≤ gvG G w l i ∧ (0 < gvG G w l i → ∃ j, j < i ∧ (G.getD j default).w = (w : Int) ∧ (G.getD j default).l = (l : Int))
  | 0, _ => by simp [gvG]
  | i + 1, h => by
    have h0 : firstE A B G i = 0 := by
      simp only [firstE] at h; split at h
      · assumption
      · contradiction
    obtain ⟨a1, a2⟩ := gv_ok (w := w) (l := l) h0
    have b := giftE_ok (firstE_at h i (by omega))
    simp only [gvG]
    by_cases e : (G.getD i default).w = (w : Int) ∧ (G.getD i default).l = (l : Int)
    · rw [if_pos e]
      exact ⟨by omega, fun _ => ⟨i, by omega, e⟩⟩
    · rw [if_neg e, Int.add_zero]
      exact ⟨a1, fun hp => by
        obtain ⟨j, h1, h2⟩ := a2 hp
        exact ⟨j, by omega, h2⟩⟩
theorem gv_lot {l : Nat} : ∀ {i : Nat}, firstE A B G i = 0 → su (fun w => gvG G w l i) B.length = cL G l i
  | 0, _ => su_zero fun _ _ => rfl
  | i + 1, h => by
    have h0 : firstE A B G i = 0 := by
      simp only [firstE] at h; split at h
      · assumption
      · contradiction
    have b := giftE_ok (firstE_at h i (by omega))
    simp only [gvG, cL]
    rw [su_add, gv_lot h0]
    congr 1
    by_cases e : (G.getD i default).l = (l : Int)
    · rw [if_pos e, su_congr (g := fun w : Nat => if (G.getD i default).w = (w : Int) then (G.getD i default).n else 0) fun w hw => by simp [e], su_ix, if_pos (by omega)]
    · rw [if_neg e]
      exact su_zero fun w hw => by rw [if_neg (fun h => e h.2)]
theorem gv_wnt {w : Nat} : ∀ {i : Nat}, firstE A B G i = 0 → su (fun l => gvG G w l i) A.length = cW G w i
  | 0, _ => su_zero fun _ _ => rfl
  | i + 1, h => by
    have h0 : firstE A B G i = 0 := by
      simp only [firstE] at h; split at h
      · assumption
      · contradiction
    have b := giftE_ok (firstE_at h i (by omega))
    simp only [gvG, cW]
    rw [su_add, gv_wnt h0]
    congr 1
    by_cases e : (G.getD i default).w = (w : Int)
    · rw [if_pos e, su_congr (g := fun l : Nat => if (G.getD i default).l = (l : Int) then (G.getD i default).n else 0) fun l hl => by simp [e], su_ix, if_pos (by omega)]
    · rw [if_neg e]
      exact su_zero fun l hl => by rw [if_neg (fun h => e h.1)]
theorem cw_all : ∀ {i : Nat}, firstE A B G i = 0 → su (fun w => cW G w i) B.length = sG G i
  | 0, _ => su_zero fun _ _ => rfl
  | i + 1, h => by
    have h0 : firstE A B G i = 0 := by
      simp only [firstE] at h; split at h
      · assumption
      · contradiction
    have b := giftE_ok (firstE_at h i (by omega))
    simp only [cW, sG]
    rw [su_add, cw_all h0, su_ix, if_pos (by omega)]
/-- gifts that are accepted serve at most the most -/
theorem gifts_le (h : (checkP A B G).2 = 0) : (checkP A B G).1 ≤ mostF (netOf A B) := by
  unfold checkP at *
  by_cases hv : valP A B = 0
  case neg => rw [if_neg hv] at h; exact absurd h hv
  rw [if_pos hv] at *
  by_cases hf : firstE A B G G.length = 0
  case neg => rw [if_neg hf] at h; exact absurd h hf
  rw [if_pos hf] at *
  by_cases hc : allN (lotsOk A G) A.length = true ∧ allN (wntsOk B G) B.length = true
  case neg => rw [if_neg hc] at h; exact absurd h (by decide)
  rw [if_pos hc] at *
  show sG G G.length ≤ _
  obtain ⟨c1, c2⟩ := hc
  have d1 : ∀ k, k < A.length → cL G k G.length ≤ (A.getD k default).w := fun k hk => by
    have := allN_at c1 hk
    simp [lotsOk] at this; exact this
  have d2 : ∀ k, k < B.length → cW G k G.length ≤ (B.getD k default).w := fun k hk => by
    have := allN_at c2 hk
    simp [wntsOk] at this; exact this
  obtain ⟨m, h1, h2⟩ := most_ex (p := netOf A B)
  rw [h2]
  have hok : FlOk (netOf A B) ⟨fun l => (A.getD l default).w - cL G l G.length, fun w l => if w < B.length ∧ l < A.length then gvG G w l G.length else 0⟩ := by
    refine ⟨fun l hl => ⟨?_, ?_⟩, fun w hw l hl => ?_, fun w l hn => ?_⟩
    · have := d1 l hl
      show 0 ≤ (A.getD l default).w - cL G l G.length
      omega
    · show (A.getD l default).w - cL G l G.length + su (fun w => if w < B.length ∧ l < A.length then gvG G w l G.length else 0) B.length = (A.getD l default).w
      rw [su_congr (g := fun w => gvG G w l G.length) fun w hw => if_pos ⟨hw, hl⟩, gv_lot hf]; omega
    · show 0 ≤ (if w < B.length ∧ l < A.length then gvG G w l G.length else 0) ∧ (0 < (if w < B.length ∧ l < A.length then gvG G w l G.length else 0) → nearL (A.getD l default) (B.getD w default) = true)
      rw [if_pos ⟨hw, hl⟩]
      obtain ⟨a1, a2⟩ := gv_ok (w := w) (l := l) hf
      refine ⟨a1, fun hp => ?_⟩
      obtain ⟨j, j1, j2, j3⟩ := a2 hp
      have hg := firstE_at hf j j1
      have b := giftE_ok hg
      unfold giftE at hg
      rw [if_neg (by omega), if_neg (by omega), j2, j3] at hg
      simp only [Int.toNat_natCast] at hg
      by_cases hn : nearL (A.getD l default) (B.getD w default) = true
      · exact hn
      · unfold nearL at hn
        rw [if_neg hn] at hg
        exact absurd hg (by decide)
    · show (if w < B.length ∧ l < A.length then gvG G w l G.length else 0) = 0
      have hn : B.length ≤ w ∨ A.length ≤ l := hn
      rw [if_neg (by omega)]
  have hgot : ∀ w, w < B.length → gotF (netOf A B) ⟨fun l => (A.getD l default).w - cL G l G.length, fun w l => if w < B.length ∧ l < A.length then gvG G w l G.length else 0⟩ w = cW G w G.length := fun w hw => by
    show su (fun l => if w < B.length ∧ l < A.length then gvG G w l G.length else 0) A.length = _
    rw [su_congr (g := fun l => gvG G w l G.length) fun l hl => if_pos ⟨hw, hl⟩, gv_wnt hf]
  have := tot_le hok (fun w hw => by rw [hgot w hw]; exact d2 w hw) fun w => m.testBit w
  unfold totF at this
  have e2 : ∀ (F : Fl), (∀ w, w < B.length → gotF (netOf A B) F w = cW G w G.length) → su (gotF (netOf A B) F) (netOf A B).nw = su (fun w => cW G w G.length) B.length := fun F hF => su_congr fun w hw => hF w hw
  rw [e2 _ hgot, cw_all hf] at this
  exact this
end
structure Am where
  l : Int
  t : Int
  deriving Inhabited
def Am.cells (a : Am) : List V := [.int .i64 a.l, .int .i64 a.t]
def amC : Cod Am 2 := ⟨Am.cells, fun _ => rfl⟩
/-- one bath: a level of nothing bleaches -/
def stepP (a : Sh) (lv tn : Int) : (Int × Int × Int) × Int := if lv = 0 then bleachP a.l a.t a.b else dyeP a.l a.t a.b lv tn
theorem stepP_ok {a : Sh} {lv tn : Int} (h : (stepP a lv tn).2 = 0) : Step a ⟨(stepP a lv tn).1.1, (stepP a lv tn).1.2.1, (stepP a lv tn).1.2.2⟩ := by
  unfold stepP bleachP dyeP at *
  by_cases h0 : lv = 0
  · rw [if_pos h0] at *
    by_cases h1 : shB a.l a.t a.b = true
    · rw [if_pos h1] at *
      have hb := h1
      simp only [shB, decide_eq_true_eq] at hb
      by_cases h2 : a.b = 3
      · rw [if_pos h2] at h; exact absurd h (by decide)
      · rw [if_neg h2] at *
        exact Or.inl ⟨by omega, rfl⟩
    · rw [if_neg h1] at h; exact absurd h (by decide)
  · rw [if_neg h0] at *
    by_cases h1 : shB a.l a.t a.b = true ∧ colB lv tn = true
    · rw [if_pos h1] at *
      have hc := h1.2
      simp only [colB, decide_eq_true_eq] at hc
      by_cases h2 : a.l < lv
      · rw [if_pos h2] at h; exact absurd h (by decide)
      · rw [if_neg h2] at *
        exact Or.inr ⟨by simp only; omega, by simp only; omega, by simp only; omega, by simp only; omega, rfl⟩
    · rw [if_neg h1] at h; exact absurd h (by decide)
theorem rch_path {s x : Sh} {n : Nat} (hs : shB s.l s.t s.b = true) (h : Rch s n x) : colB x.l x.t = true ∧ ∃ q, pathF x.l x.t (4 - s.b).toNat s.l s.t s.b = some q ∧ q.length ≤ n ∧ pathL s.l s.t s.b x.l x.t = q ∧ pathO s.l s.t s.b x.l x.t = some q ∧ pathE s.l s.t s.b x.l x.t = 0 := by
  have hx : ∀ {m : Nat} {y : Sh}, Rch s m y → shB y.l y.t y.b = true := by
    intro m
    induction m with
    | zero => intro y hy; have : y = s := hy; subst this; exact hs
    | succ m ih => rintro y ⟨z, h1, h2⟩; exact h2.ok (ih h1)
  have h1 := hx h
  have h1' := h1
  simp only [shB, decide_eq_true_eq] at h1'
  have hc : colB x.l x.t = true := by simp only [colB, decide_eq_true_eq]; omega
  obtain ⟨v1, v2⟩ := rch_cost (lv := x.l) (tn := x.t) hc hs h
  obtain ⟨f, hf⟩ : ∃ f, (4 - x.b).toNat = f + 1 := ⟨(4 - x.b).toNat - 1, by omega⟩
  obtain ⟨q, q1, q2⟩ := v2 (p := []) (by rw [hf]; simp only [pathF]; rw [if_pos ⟨trivial, trivial⟩])
  have qO : pathO s.l s.t s.b x.l x.t = some q := by simp [pathO, hs, hc, q1]
  exact ⟨hc, q, q1, by simpa using q2, by simp [pathL, qO], qO, by simp [pathE, hs, hc]⟩
section
variable {lim : Nat} {H : Hp} {K : V → Hp → Prop} {v : V} {l : List Am}
theorem am_load (h : LstV amC H v l) {i : Nat} (hi : i < l.length) {L : Lo} : vload (some 2) L H (ept 2 v i) = some (.agg [.int .i64 (l.getD i default).l, .int .i64 (l.getD i default).t]) := h.load hi
theorem top_shortest {s : Sh} (hv : LstV amC H v l) (hs : shB s.l s.t s.b = true) (hlim : lim ≤ H.length) (hK : ∀ H', HX H H' → K (.bool true) H') : VCall tbl lim 57 [.agg [.int .i64 s.l, .int .i64 s.t, .int .i64 s.b], v] H K := by
  refine VCall_fn tbl_at57 rfl ?_
  have HS : rd (some 3) [.int .i64 s.l, .int .i64 s.t, .int .i64 s.b] 0 = some (.agg [.int .i64 s.l, .int .i64 s.t, .int .i64 s.b]) := rfl
  simp [vf57, splice]
  refine wLoop_up l.length (fun i fr L H' => ∃ X, (fr 1 = v ∧ fr 2 = .lp 0 0 ∧ fr 5 = .lp 1 0 ∧ fr 7 = .int .i64 i) ∧ HX H H' ∧ ∃ d : Nat, fr 6 = .int .i64 d ∧ ∃ now, L = [.int .i64 s.l, .int .i64 s.t, .int .i64 s.b] :: [.int .i64 now.l, .int .i64 now.t, .int .i64 now.b] :: X ∧ Rch s d now ∧ d ≤ i) ⟨[], by simp, .refl, 0, by simp, s, rfl, rfl, Nat.le_refl _⟩ ?_
  rintro i hi fr L H1 ⟨X, ⟨f1, f2, f5, f7⟩, hx, d, f6, now, rfl, hrch, hd⟩
  have hv1 := hv.mono hx
  have l1 := hx.len
  simp [f1, f2, f5, f6, f7, hv1.len]
  by_cases ht : i < l.length
  case neg =>
    simp [ht]
    exact hK _ hx
  by_cases h30 : i < 30
  case neg =>
    simp [ht, show ¬ (i : Int) < 30 by omega]
    exact hK _ hx
  have r0 : ∀ L, vload none L H1 (eptf 2 v i 0) = some (.int .i64 (l.getD i default).l) := fun L => hv1.rd1 ht (by omega)
  have r1 : ∀ L, vload none L H1 (eptf 2 v i 1) = some (.int .i64 (l.getD i default).t) := fun L => hv1.rd1 ht (by omega)
  have fa : ∀ m, vfaddr m (ept 2 v i) = some (eptf 2 v i m) := fun m => hv1.faddr ht
  have NS : rd (some 3) [.int .i64 now.l, .int .i64 now.t, .int .i64 now.b] 0 = some (.agg [.int .i64 now.l, .int .i64 now.t, .int .i64 now.b]) := rfl
  simp (disch := omega) [ht, show (i : Int) < 30 by omega, f1, f2, f5, f6, f7, hv1.at ht, fa, r0, r1, HS, NS]
  refine dye_Dye ?_
  generalize hlv : (l.getD i default).l = lv at *
  generalize htn : (l.getD i default).t = tn at *
  simp (disch := omega) [f1, f2, f5, f6, f7, hv1.at ht, fa, r0, r1, HS, NS, tw0, tw1, tws0, tws1, lastO, lastS, splice]
  by_cases h0 : lv = 0
  · simp (disch := omega) [h0, f1, f2, f5, f6, f7, HS, NS, tw0, tw1, tws0, tws1, lastO, lastS, splice]
    refine dye_Bleach ?_
    obtain ⟨⟨⟨za, zt, zb⟩, ze⟩, hP⟩ : ∃ P, bleachP now.l now.t now.b = P := ⟨_, rfl⟩
    have hst : ze = 0 → Step now ⟨za, zt, zb⟩ := fun h => by
      have := stepP_ok (a := now) (lv := lv) (tn := tn)
      unfold stepP at this
      rw [if_pos h0, hP] at this
      exact this h
    have ZS : rd (some 3) [.int .i64 za, .int .i64 zt, .int .i64 zb] 0 = some (.agg [.int .i64 za, .int .i64 zt, .int .i64 zb]) := rfl
    simp (disch := omega) [hP, f1, f2, f5, f6, f7, HS, NS, ZS, tw0, tw1, tws0, tws1, lastO, lastS, splice]
    by_cases he : ze = 0
    case neg =>
      simp (disch := omega) [he, f1, f2, f5, f6, f7, wrap_i64]
      exact ⟨hx, _, d, rfl, now, ⟨⟨rfl, rfl, rfl⟩, rfl⟩, hrch, by omega⟩
    have hr : Rch s (d + 1) ⟨za, zt, zb⟩ := ⟨now, hrch, hst he⟩
    obtain ⟨hc, q, q1, q2, q3, q4, q5⟩ := rch_path hs hr
    simp only at hc q1 q3 q4 q5
    simp (disch := omega) [he, f1, f2, f5, f6, f7, HS, tw0, tw1, tws0, tws1, lastO, lastS, splice, wrap_i64, ZS]
    refine dye_Baths (by omega) fun H2 x2 => ?_
    replace x2 : HX H1 H2 := x2
    have l2 := x2.len
    rw [q3, q4, q5]
    simp (disch := omega) [he, f1, f2, f5, f6, f7, HS, tw0, tw1, tws0, tws1, lastO, lastS, splice, wrap_i64, ZS]
    refine dye_Path (by omega) fun H3 w x3 o3 => ?_
    replace x3 : HX H2 H3 := x3
    have l3 := x3.len
    rw [q3] at o3
    rw [q4, q5]
    simp (disch := omega) [he, f1, f2, f5, f6, f7, HS, tw0, tw1, tws0, tws1, lastO, lastS, splice, wrap_i64, ZS, o3.lst.len, o3.lst.stor, show ¬ (d : Int) + 1 < q.length by omega]
    refine ref_IsPath o3.lst hc hs q1 ?_
    simp (disch := omega) [he, f1, f2, f5, f6, f7, HS, tw0, tw1, tws0, tws1, lastO, lastS, splice, wrap_i64, ZS]
    exact ⟨(hx.trans x2).trans x3, _, d + 1, by omega, ⟨za, zt, zb⟩, ⟨⟨rfl, rfl, rfl⟩, rfl⟩, hr, by omega⟩
  · obtain ⟨⟨⟨za, zt, zb⟩, ze⟩, hP⟩ : ∃ P, dyeP now.l now.t now.b lv tn = P := ⟨_, rfl⟩
    have hst : ze = 0 → Step now ⟨za, zt, zb⟩ := fun h => by
      have := stepP_ok (a := now) (lv := lv) (tn := tn)
      unfold stepP at this
      rw [if_neg h0, hP] at this
      exact this h
    have ZS : rd (some 3) [.int .i64 za, .int .i64 zt, .int .i64 zb] 0 = some (.agg [.int .i64 za, .int .i64 zt, .int .i64 zb]) := rfl
    simp (disch := omega) [h0, hP, f1, f2, f5, f6, f7, HS, NS, ZS, tw0, tw1, tws0, tws1, lastO, lastS, splice]
    by_cases he : ze = 0
    case neg =>
      simp (disch := omega) [he, f1, f2, f5, f6, f7, wrap_i64]
      exact ⟨hx, _, d, rfl, now, ⟨⟨rfl, rfl, rfl⟩, rfl⟩, hrch, by omega⟩
    have hr : Rch s (d + 1) ⟨za, zt, zb⟩ := ⟨now, hrch, hst he⟩
    obtain ⟨hc, q, q1, q2, q3, q4, q5⟩ := rch_path hs hr
    simp only at hc q1 q3 q4 q5
    simp (disch := omega) [he, f1, f2, f5, f6, f7, HS, tw0, tw1, tws0, tws1, lastO, lastS, splice, wrap_i64, ZS]
    refine dye_Baths (by omega) fun H2 x2 => ?_
    replace x2 : HX H1 H2 := x2
    have l2 := x2.len
    rw [q3, q4, q5]
    simp (disch := omega) [he, f1, f2, f5, f6, f7, HS, tw0, tw1, tws0, tws1, lastO, lastS, splice, wrap_i64, ZS]
    refine dye_Path (by omega) fun H3 w x3 o3 => ?_
    replace x3 : HX H2 H3 := x3
    have l3 := x3.len
    rw [q3] at o3
    rw [q4, q5]
    simp (disch := omega) [he, f1, f2, f5, f6, f7, HS, tw0, tw1, tws0, tws1, lastO, lastS, splice, wrap_i64, ZS, o3.lst.len, o3.lst.stor, show ¬ (d : Int) + 1 < q.length by omega]
    refine ref_IsPath o3.lst hc hs q1 ?_
    simp (disch := omega) [he, f1, f2, f5, f6, f7, HS, tw0, tw1, tws0, tws1, lastO, lastS, splice, wrap_i64, ZS]
    exact ⟨(hx.trans x2).trans x3, _, d + 1, by omega, ⟨za, zt, zb⟩, ⟨⟨rfl, rfl, rfl⟩, rfl⟩, hr, by omega⟩
end
/-- the cells of gifts and a set -/
inductive SrvV (H : Hp) : List V → List Gft × List Int → Prop
  | mk {gv sv : V} {G : List Gft} {S : List Int} : LstV gftC H gv G → SlV H sv S → SrvV H [gv, sv] ⟨G, S⟩
theorem srv_of {H : Hp} {ws : List V} {ds : List CD} (h : RepTs H [.sl [cInt, cInt, cInt], cInts] ws ds) : ∃ f, SrvV H ws f := by
  obtain ⟨v0, u0, _, _, rfl, _, p0, q0⟩ := reps_cons h
  obtain ⟨v1, u1, _, _, rfl, _, p1, q1⟩ := reps_cons q0
  have e := reps_nil q1
  subst e
  obtain ⟨G, hG⟩ := gfts_of p0
  obtain ⟨S, hS, _, _⟩ := ints_of p1
  exact ⟨⟨G, S⟩, .mk hG hS⟩
theorem ams_of {H : Hp} {v : V} {d : CD} (h : RepT H (.sl [cInt, cInt]) v d) : ∃ l, LstV amC H v l := by
  obtain ⟨l, h1, _, _⟩ := lst_of (c := amC) rfl (fun z => True) (fun vs ds h => by
    obtain ⟨v0, u0, _, _, rfl, _, p0, q0⟩ := reps_cons h
    obtain ⟨v1, u1, _, _, rfl, _, p1, q1⟩ := reps_cons q0
    have e := reps_nil q1
    subst e
    obtain ⟨n0, rfl, c0⟩ := int_of p0
    obtain ⟨n1, rfl, c1⟩ := int_of p1
    exact ⟨⟨n0, n1⟩, rfl, trivial⟩) h
  exact ⟨l, h1⟩
section
variable {lim : Nat} {H : Hp} {K : V → Hp → Prop} {v : V} {l : List Am}
theorem law_TopServed {ws xs : List V} {f : Trd} {y : List Gft × List Int} (hv : TrdV H ws f) (hy : SrvV H xs y) (hl : LstV amC H v l) (hlim : lim ≤ H.length) (hK : ∀ H', K (.bool true) H') : VCall tbl lim 17 [.agg ws, .agg xs, v] H K := by
  cases hv with
  | mk ha hb =>
  cases hy with
  | mk hg hs =>
  rename_i av bv A B gv sv G S
  refine VCall_fn tbl_at17 rfl ?_
  have n0 : rd none [gv, sv] 0 = some gv := by cases hg <;> rfl
  have n1 : rd none [gv, sv] 1 = some sv := by cases hs <;> rfl
  have m0 : rd none [av, bv] 0 = some av := by cases ha <;> rfl
  have m1 : rd none [av, bv] 1 = some bv := by cases hb <;> rfl
  have bl : bleachP 5 0 0 = ((7, 0, 1), 0) := by decide +kernel
  have HS : rd (some 3) [.int .i64 5, .int .i64 0, .int .i64 0] 0 = some (.agg [.int .i64 5, .int .i64 0, .int .i64 0]) := rfl
  simp [vf17, n0, n1, m0, m1, HS, hg.stor, hs.stor, ha.stor, hb.stor, splice]
  refine dye_Bleach ?_
  simp [bl, n0, n1, m0, m1, HS, hg.stor, hs.stor, ha.stor, hb.stor, hl.stor, splice]
  refine top_shortest (s := ⟨5, 0, 0⟩) hl (by decide) hlim fun H1 x1 => ?_
  replace x1 : HX H H1 := x1
  have l1 := x1.len
  have ha1 := ha.mono x1
  have hb1 := hb.mono x1
  have hg1 := hg.mono x1
  have hs1 := hs.mono x1
  by_cases h1 : 30 < A.length
  · simp [n0, n1, m0, m1, ha.len, show (30 : Int) < A.length by omega]
    exact hK _
  by_cases h2 : 30 < B.length
  · simp [n0, n1, m0, m1, ha.len, hb.len, show ¬ (30 : Int) < A.length by omega, show (30 : Int) < B.length by omega]
    exact hK _
  by_cases h3 : 200 < G.length
  · simp [n0, n1, m0, m1, ha.len, hb.len, hg.len, show ¬ (30 : Int) < A.length by omega, show ¬ (30 : Int) < B.length by omega, show (200 : Int) < G.length by omega]
    exact hK _
  by_cases h4 : 100 < S.length
  · simp [n0, n1, m0, m1, ha.len, hb.len, hg.len, hs.len, show ¬ (30 : Int) < A.length by omega, show ¬ (30 : Int) < B.length by omega, show ¬ (200 : Int) < G.length by omega, show (100 : Int) < S.length by omega]
    exact hK _
  simp [n0, n1, m0, m1, ha.len, hb.len, hg.len, hs.len, ha.stor, hb.stor, show ¬ (30 : Int) < A.length by omega, show ¬ (30 : Int) < B.length by omega, show ¬ (200 : Int) < G.length by omega, show ¬ (100 : Int) < S.length by omega]
  refine dye_Best ha1 hb1 (by omega) fun H2 w G2 x2 hG2 ok no => ?_
  replace x2 : HX H1 H2 := x2
  have l2 := x2.len
  have ha2 := ha1.mono x2
  have hb2 := hb1.mono x2
  have hg2 := hg1.mono x2
  have hs2 := hs1.mono x2
  by_cases hval : valP A B = 0
  case neg =>
    simp [hval, n0, n1, m0, m1, ha.stor, hb.stor, hg.stor, hG2.stor]
    refine dye_Check ha2 hb2 hg2 (by omega) (by omega) fun H3 x3 => ?_
    have e : (checkP A B G).2 = valP A B := by unfold checkP; rw [if_neg hval]
    simp [e]
    exact hK _
  have hm : mostP A B = mostF (netOf A B) := by simp [mostP, hval]
  rw [hm]
  simp [hval, n0, n1, m0, m1, ha.stor, hb.stor, hg.stor, hG2.stor]
  refine dye_Lack ha2 hb2 (by omega) fun H3 u T x3 hT hTl okT noT => ?_
  replace x3 : HX H2 H3 := x3
  have l3 := x3.len
  have ha3 := ha2.mono x3
  have hb3 := hb2.mono x3
  have hg3 := hg2.mono x3
  have hs3 := hs2.mono x3
  obtain ⟨q1, q2⟩ := okT hval
  simp [hval, n0, n1, m0, m1, ha.stor, hb.stor, hg.stor, hs.stor, hT.stor]
  refine dye_Bound ha3 hb3 hT (by omega) ?_
  rw [q1, q2]
  simp [hval, n0, n1, m0, m1, ha.stor, hb.stor, hg.stor, hs.stor]
  refine dye_Bound ha3 hb3 hs3 (by omega) ?_
  simp [hval, n0, n1, m0, m1, ha.stor, hb.stor, hg.stor, hs.stor]
  refine dye_Check ha3 hb3 hg3 (by omega) (by omega) fun H4 x4 => ?_
  have hB : bouE A B S = 0 → mostF (netOf A B) ≤ bouP A B S := fun h => by
    unfold bouP; rw [if_pos h]; exact most_le _
  have hC : (checkP A B G).2 = 0 → (checkP A B G).1 ≤ mostF (netOf A B) := gifts_le
  generalize bouE A B S = e1 at *
  generalize bouP A B S = e2 at *
  generalize checkP A B G = e3 at *
  generalize mostF (netOf A B) = e4 at *
  by_cases g1 : e1 = 0
  · have g2 := hB g1
    by_cases g3 : e3.2 = 0
    · have g4 := hC g3
      simp [g1, g2, g3, g4]
      exact hK _
    · simp [g1, g2, g3]
      exact hK _
  · by_cases g3 : e3.2 = 0
    · have g4 := hC g3
      simp [g1, g3, g4]
      exact hK _
    · simp [g1, g3]
      exact hK _
end
end Go.Proofs.Ytlljkhhdhedajaa.Vm

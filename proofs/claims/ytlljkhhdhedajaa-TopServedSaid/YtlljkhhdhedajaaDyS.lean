/- Package dye over the machine: the sharing, Best. -/
import Derived.Test.YtlljkhhdhedajaaDyR
namespace Go.Proofs.Ytlljkhhdhedajaa.Vm
open Go
set_option maxRecDepth 100000
set_option maxHeartbeats 2000000
set_option linter.unusedSimpArgs false
set_option linter.unusedVariables false
attribute [-simp] List.getD_eq_getElem?_getD
attribute [local simp] tgW
theorem keepL {L : Lo} {q : Nat} {c : List V} (h : L[q]? = some c) : ∀ d, (L ++ [d])[q]? = some c := fun d => by
  rw [List.getElem?_append_left (List.getElem?_eq_some_iff.1 h).1]; exact h
theorem setLq2 {X : Lo} {q : Nat} {d : List V} (h : X[q]? = some d) : ∀ c, (X.set q c)[q]? = some c := fun c => by rw [List.getElem?_set_self (List.getElem?_eq_some_iff.1 h).1]
def fal6 : List Bool := [false, false, false, false, false, false]
theorem trF_fal : trF fal6 = fun _ => false := by
  funext i
  match i with
  | 0 | 1 | 2 | 3 | 4 | 5 => rfl
  | n + 6 => simp [trF, fal6, List.getD_eq_getElem?_getD]
/-- gifts that are the most -/
def BestG (A : List Lot) (B : List Wnt) (g : List Int) : Prop := ∃ l, FlOk (netOf A B) (flOf l g) ∧ (∀ w, w < B.length → gotF (netOf A B) (flOf l g) w ≤ (B.getD w default).w) ∧ totF (netOf A B) (flOf l g) = mostF (netOf A B)
section
variable {lim : Nat} {H : Hp} {K : V → Hp → Prop} {av bv : V} {A : List Lot} {B : List Wnt}
theorem rowOf_len4 : ∀ n : Nat, (rowOf n (ints (zs 4))).length = n * 4
  | 0 => by simp [rowOf]
  | n + 1 => by
    have ih := rowOf_len4 n
    simp only [rowOf, List.replicate_succ, List.flatten_cons, List.length_append] at ih ⊢
    rw [ih]; simp; omega
theorem fl_start (hv : valP A B = 0) : FlOk (netOf A B) (flOf A (zs 36)) := by
  have hz : ∀ w k, (flOf A (zs 36)).g w k = 0 := fun w k => by
    show (if w < 6 ∧ k < 6 then (zs 36).getD (w * 6 + k) 0 else 0) = 0
    rw [zs_getD]; split <;> rfl
  refine ⟨fun l hl => ?_, fun w hw l hl => by rw [hz]; exact ⟨Int.le_refl _, fun h => by omega⟩, fun w l _ => hz w l⟩
  rw [su_zero fun w _ => hz w l]
  have := (net_bd hv).2.2.1 l hl
  exact ⟨this.1, Int.add_zero _⟩
theorem dye_share (ha : LstV lotC H av A) (hb : LstV wntC H bv B) (hv : valP A B = 0) (hlim : lim ≤ H.length)
    (hK : ∀ H' g, HX H H' → g.length = 36 → (∀ i, 0 ≤ g.getD i 0 ∧ g.getD i 0 ≤ 1000000) → BestG A B g → K (.agg (ints g)) H') : VCall tbl lim 76 [av, bv] H K := by
  refine VCall_fn tbl_at76 rfl ?_
  obtain ⟨b1, b2, b3, b4⟩ := net_bd hv
  have hmk : ∀ (L : Lo) (H' : Hp), vmks 4 32 (ints (zs 4)) L H' (.int .i64 A.length) (.int .i64 A.length) = some (.val (.sl H'.length 0 A.length 4) L (H' ++ [.row (rowOf A.length (ints (zs 4))) true])) := fun L H' => by
    have h2 : (A.length : Int) ≤ 16777216 := by omega
    have h3 : A.length * 32 ≤ 16777216 := by omega
    simp [vmks, h2, h3]
  have hcp : ∀ r0 r2 : Blk, vcopy lim 4 (H ++ [r0, .row (rowOf A.length (ints (zs 4))) true, r2]) (.sl (H.length + 1) 0 A.length 4) av = some (.int .i64 A.length, H ++ [r0, .row (lotC.all A) true, r2]) := fun r0 r2 => by
    have hx : HX H (H ++ [r0, .row (rowOf A.length (ints (zs 4))) true, r2]) := ⟨_, rfl⟩
    have hc := (ha.mono hx).cells
    have hal : (lotC.all A).length = A.length * 4 := Cod.all_len
    by_cases h0 : A.length = 0
    · have : A = [] := List.eq_nil_of_length_eq_zero h0
      subst this
      have hc0 : vcells 4 (H ++ [r0, .row [] true, r2]) av = some [] := (ha.mono ⟨_, rfl⟩).cells
      simp [vcopy, hc0, ha.len, vlenS_sl, rowOf, Cod.all]
    · have et : (lotC.all A).take (A.length * 4) = lotC.all A := List.take_of_length_le (by omega)
      have es : splice (rowOf A.length (ints (zs 4))) 0 (lotC.all A) = lotC.all A := by
        simp only [splice, List.take_zero, List.nil_append, Nat.zero_add]
        rw [List.drop_of_length_le (by rw [rowOf_len4, hal]; exact Nat.le_refl _), List.append_nil]
      have l1 : lim ≤ H.length + 1 := by omega
      have h00 : ¬ A = [] := fun e => h0 (by rw [e]; rfl)
      simp [vcopy, hc, ha.len, vlenS_sl, h0, h00, et, vstoreH, l1, loAt, rowOf_len4, hal, es, setAt]
  have rd1 : ∀ x : V, rd none [x] 0 = some x := fun x => Eq.trans rfl rfl
  have spl1 : ∀ x y : V, splice [x] 0 [y] = [y] := fun x y => Eq.trans rfl rfl
  have l1 : lim ≤ H.length + 1 := by omega
  have l2 : lim ≤ H.length + 2 := by omega
  have l5 : lim ≤ H.length + 5 := by omega
  simp (disch := omega) [vf76, ha.len, ha.stor, hb.stor, hb.one, hb.len, hmk, List.append_assoc, loAt, loAt0, setAt, vstoreH, rd1, spl1, hcp, l1, l2, l5, Nat.add_assoc]
  have hS : ShS H.length H bv (.sl (H.length + 1) 0 A.length 4) A A (zs 36) fal6 (H ++ [Blk.row [bv] true, Blk.row (lotC.all A) true, Blk.row [V.sl (H.length + 1) 0 A.length 4] true, Blk.row (ints (zs 36)) true, Blk.row [V.bool false, V.bool false, V.bool false, V.bool false, V.bool false, V.bool false] true, Blk.row [getW H.length] true]) :=
    ⟨⟨rfl, by simp⟩, fun b hb => List.getElem?_append_left hb, rfl, by rw [loAt0]; rfl, .row (by omega) (by rw [loAt]; rfl), by rw [loAt]; rfl, by rw [loAt]; rfl, by rw [loAt]; rfl, by rw [loAt]; rfl, zs_length _, rfl, rfl, fun i _ => ⟨rfl, rfl, rfl⟩⟩
  generalize hHH : H ++ [Blk.row [bv] true, Blk.row (lotC.all A) true, Blk.row [V.sl (H.length + 1) 0 A.length 4] true, Blk.row (ints (zs 36)) true, Blk.row [V.bool false, V.bool false, V.bool false, V.bool false, V.bool false, V.bool false] true, Blk.row [getW H.length] true] = HS at *
  have hHH2 : H ++ [Blk.row [bv] true, Blk.row (lotC.all A) true, Blk.row [V.sl (H.length + 1) 0 A.length 4] true, Blk.row (ints (zs 36)) true, Blk.row [V.bool false, V.bool false, V.bool false, V.bool false, V.bool false, V.bool false] true, Blk.row [V.func (Fn.func 88) [] [V.ptr (H.length + 2) 0, V.ptr (H.length + 4) 0, V.ptr H.length 0, V.ptr (H.length + 3) 0, V.ptr (H.length + 5) 0]] true] = HS := hHH
  rw [hHH2]
  have z0 : ∀ w, gotF (netOf A B) (flOf A (zs 36)) w = 0 := fun w => su_zero fun k _ => by
    show (if w < 6 ∧ k < 6 then (zs 36).getD (w * 6 + k) 0 else 0) = 0
    rw [zs_getD]; split <;> rfl
  refine wLoop_up B.length (fun i fr L H' => ∃ l g tr, (fr 4 = .lp 0 0 ∧ fr 6 = .ptr (H.length + 3) 0 ∧ fr 7 = .ptr (H.length + 4) 0 ∧ fr 8 = .ptr (H.length + 5) 0 ∧ fr 20 = bv ∧ fr 21 = .int .i64 B.length ∧ fr 22 = .int .i64 i) ∧ L[0]? = some (ints (zs 36)) ∧ ShS H.length H bv (.sl (H.length + 1) 0 A.length 4) A l g tr H' ∧
    FlOk (netOf A B) (flOf l g) ∧ (∀ w, w < B.length → gotF (netOf A B) (flOf l g) w ≤ (B.getD w default).w) ∧ (∀ w, i ≤ w → w < B.length → gotF (netOf A B) (flOf l g) w = 0) ∧ ∃ S T : Nat → Prop, ClsF (netOf A B) (flOf l g) S T ∧ ∀ w, w < i → w < B.length → gotF (netOf A B) (flOf l g) w = (B.getD w default).w ∨ S w)
    ⟨A, zs 36, fal6, by simp, rfl, hS, fl_start hv, fun w hw => by rw [z0]; exact (b4 w hw).1, fun w _ _ => z0 w, fun _ => False, fun _ => False, ⟨fun w _ h => h.elim, fun l _ h => h.elim⟩, fun w hw => by omega⟩ ?_
  rintro i hi fr L H1 ⟨l, g, tr, ⟨f4, f6, f7, f8, f20, f21, f22⟩, l0, hS1, hok, hle, hz, S, T, hc, hsat⟩
  simp [f4, f6, f7, f8, f20, f21, f22]
  refine cond_dec (fun ht => ?_) fun hfl => ?_
  · have ht : i < B.length := by omega
    have hB1 := hS1.wants hb
    simp (disch := omega) [f4, f6, f7, f8, f20, f21, f22, hB1.at ht, wa_load hB1, lastO, lastS, splice55, iz5, lpId_ept]
    refine wLoop_post 2 (fun fr L' H' => ∃ l g tr, (fr 4 = .lp 0 0 ∧ fr 6 = .ptr (H.length + 3) 0 ∧ fr 7 = .ptr (H.length + 4) 0 ∧ fr 8 = .ptr (H.length + 5) 0 ∧ fr 20 = bv ∧ fr 21 = .int .i64 B.length ∧ fr 22 = .int .i64 i) ∧ L'[0]? = some (ints (zs 36)) ∧ ShS H.length H bv (.sl (H.length + 1) 0 A.length 4) A l g tr H' ∧
      FlOk (netOf A B) (flOf l g) ∧ (∀ w, w < B.length → gotF (netOf A B) (flOf l g) w ≤ (B.getD w default).w) ∧ (∀ w, i + 1 ≤ w → w < B.length → gotF (netOf A B) (flOf l g) w = 0) ∧ ∃ S T : Nat → Prop, ClsF (netOf A B) (flOf l g) S T ∧ ∀ w, w < i + 1 → w < B.length → gotF (netOf A B) (flOf l g) w = (B.getD w default).w ∨ S w) ?_ ?_
    · refine wLoop_m (n := (B.getD i default).w.toNat) (fun M fr L' H' => ∃ l g tr more, (fr 4 = .lp 0 0 ∧ fr 6 = .ptr (H.length + 3) 0 ∧ fr 7 = .ptr (H.length + 4) 0 ∧ fr 8 = .ptr (H.length + 5) 0 ∧ fr 20 = bv ∧ fr 21 = .int .i64 B.length ∧ fr 22 = .int .i64 i ∧ fr 9 = .int .i64 i ∧ fr 11 = .int .i64 more) ∧ L'[0]? = some (ints (zs 36)) ∧ ShS H.length H bv (.sl (H.length + 1) 0 A.length 4) A l g tr H' ∧
        FlOk (netOf A B) (flOf l g) ∧ (∀ w, w < B.length → gotF (netOf A B) (flOf l g) w ≤ (B.getD w default).w) ∧ (∀ w, i + 1 ≤ w → w < B.length → gotF (netOf A B) (flOf l g) w = 0) ∧ (∃ S T : Nat → Prop, ClsF (netOf A B) (flOf l g) S T ∧ ∀ w, w < i → w < B.length → gotF (netOf A B) (flOf l g) w = (B.getD w default).w ∨ S w) ∧
        0 ≤ more ∧ gotF (netOf A B) (flOf l g) i + more = (B.getD i default).w ∧ more.toNat ≤ M) ⟨l, g, tr, (B.getD i default).w, by simp [f4, f6, f7, f8, f20, f21, f22], keepL l0 _, hS1, hok, hle, fun w h1 h2 => hz w (by omega) h2, ⟨S, T, hc, hsat⟩, (b4 i ht).1, by rw [hz i (Nat.le_refl _) ht]; omega, by omega⟩ ?_
      clear f4 f6 f7 f8 f20 f21 f22 l0 hS1 hok hle hz hc hsat hB1
      rintro M fr L' H2 ⟨l, g, tr, more, ⟨f4, f6, f7, f8, f20, f21, f22, f9, f11⟩, l0, hS2, hok, hle, hz, ⟨S, T, hc, hsat⟩, hm0, hmo, hM⟩
      simp [f4, f6, f7, f8, f20, f21, f22, f9, f11]
      refine cond_dec (fun hgt => ?_) fun hgt => ?_
      · have hsl : vslA 6 1 H2 (.ptr (H.length + 4) 0) none none = some (.sl (H.length + 4) 0 6 1) := vslA_all hS2.rT (by simp [bools, hS2.tl])
        have hS3 : ShS H.length H bv (.sl (H.length + 1) 0 A.length 4) A l g fal6 (H2.set (H.length + 4) (.row (bools fal6) true)) := by
          obtain ⟨⟨n1, n2⟩, h2, h3, h4, h5, h6, h7, h8, h9, h10, h11, h12, h13⟩ := hS2
          exact ⟨⟨n1, by simpa using n2⟩, fun b hb => by rw [List.getElem?_set_ne (by omega)]; exact h2 b hb, h3, by rw [List.getElem?_set_ne (by omega)]; exact h4, h5.keepB fun b o m z e => by
            cases e; rw [List.getElem?_set_ne (by omega)], by rw [List.getElem?_set_ne (by omega)]; exact h6, by rw [List.getElem?_set_ne (by omega)]; exact h7, by rw [List.getElem?_set_self (by omega)], by rw [List.getElem?_set_ne (by omega)]; exact h9, h10, rfl, h12, h13⟩
        have hclr : vclr lim 1 [.bool false] H2 (.sl (H.length + 4) 0 6 1) = some (H2.set (H.length + 4) (.row (bools fal6) true)) := by
          have l4 : lim ≤ H.length + 4 := by omega
          have e1 : (bools tr).length = 6 := by simp [bools, hS2.tl]
          have e2 : splice (bools tr) 0 [.bool false, .bool false, .bool false, .bool false, .bool false, .bool false] = bools fal6 := by
            simp only [splice, List.take_zero, List.nil_append, Nat.zero_add]
            rw [List.drop_of_length_le (by rw [e1]; exact Nat.le_refl _)]; rfl
          simp [vclr, vstoreH, l4, hS2.rT, e2, e1, rowOf]
        generalize H2.set (H.length + 4) (.row (bools fal6) true) = H3 at *
        have ldF : ∀ L, vload none L H3 (.ptr (H.length + 5) 0) = some (getW H.length) := fun L => by rw [vload_ptr hS3.rF]; rfl
        have stW : stor (getW H.length) = true := Eq.trans rfl rfl
        simp [f4, f6, f7, f8, f20, f21, f22, f9, f11, hsl, hclr, ldF, stW, -vload_ptrO]
        have hb4 := b4 i ht
        have hgi : 0 ≤ gotF (netOf A B) (flOf l g) i := su_nn fun k hk => (hok.giv i ht k hk).1
        refine dye_get hb hv hlim (untN fal6 A.length) rfl (Nat.le_refl _) hS3 ht ⟨hgt, by omega⟩ hok fun H4 l4 g4 tr4 n hS4 hR => ?_
        rw [trF_fal] at hR
        have hrn := hR.rng
        by_cases hn0 : n = 0
        · subst hn0
          obtain ⟨S', T', c1, c2, c3⟩ := hc.more hR
          simp [f4, f6, f7, f8, f20, f21, f22, f9, f11]
          have hgot : ∀ w, w < B.length → gotF (netOf A B) (flOf l4 g4) w = gotF (netOf A B) (flOf l g) w := fun w hw => by rw [hR.got w hw]; split <;> omega
          exact ⟨l0, l4, g4, ⟨tr4, hS4⟩, hR.ok, fun w hw => by rw [hgot w hw]; exact hle w hw, fun w h1 h2 => by rw [hgot w h2]; exact hz w (by omega) h2, S', ⟨T', c1⟩, fun w h1 h2 => by
            by_cases e : w = i
            · subst e; exact Or.inr c3
            · rw [hgot w h2]
              rcases hsat w (by omega) h2 with q | q
              · exact Or.inl q
              · exact Or.inr (c2 w q)⟩
        · simp (disch := omega) [f4, f6, f7, f8, f20, f21, f22, f9, f11, hn0, wrap_i64]
          have hgot : ∀ w, w < B.length → w ≠ i → gotF (netOf A B) (flOf l4 g4) w = gotF (netOf A B) (flOf l g) w := fun w hw hne => by rw [hR.got w hw, if_neg hne]; omega
          have hgi2 : gotF (netOf A B) (flOf l4 g4) i = gotF (netOf A B) (flOf l g) i + n := by rw [hR.got i ht, if_pos rfl]
          exact ⟨(more - n).toNat, by omega, l0, l4, g4, ⟨tr4, hS4⟩, hR.ok, fun w hw => by
            by_cases e : w = i
            · subst e; rw [hgi2]; omega
            · rw [hgot w hw e]; exact hle w hw, fun w h1 h2 => by rw [hgot w h2 (by omega)]; exact hz w h1 h2, ⟨S, ⟨T, hc.keep (hR.cls S T hc).2⟩, fun w h1 h2 => by rw [hgot w h2 (by omega)]; exact hsat w h1 h2⟩, by omega, by rw [hgi2]; omega, by omega⟩
      · simp [f4, f6, f7, f8, f20, f21, f22]
        exact ⟨l0, l, g, ⟨tr, hS2⟩, hok, hle, hz, S, ⟨T, hc⟩, fun w h1 h2 => by
          by_cases e : w = i
          · subst e; exact Or.inl (by omega)
          · exact hsat w (by omega) h2⟩
    clear f4 f6 f7 f8 f20 f21 f22 l0 hS1 hok hle hz hc hsat hB1
    rintro fr L2 H2 ⟨l, g, tr, ⟨f4, f6, f7, f8, f20, f21, f22⟩, l0, hS2, hok, hle, hz, S, T, hc, hsat⟩
    simp (disch := omega) [f4, f6, f7, f8, f20, f21, f22, wrap_i64]
    exact ⟨by omega, l0, l, g, ⟨tr, hS2⟩, hok, hle, hz, S, ⟨T, hc⟩, hsat⟩
  · have : i = B.length := by omega
    subst this
    have ld36 : ∀ L, vload (some 36) L H1 (.ptr (H.length + 3) 0) = some (.agg (ints g)) := fun L => by rw [vload_ptr hS1.rG, rd_ints_all hS1.gl.symm]
    have e36 : splice (ints (zs 36)) 0 (ints g) = ints g := splice_ints_all (by rw [hS1.gl, zs_length])
    have hx : HX H H1 := HX.of (by have := hS1.len; omega) fun b hb => hS1.base b hb
    have hgb := (flow_bd hv hok).2
    have e37 : rd (some 36) (ints g) 0 = some (.agg (ints g)) := rd_ints_all hS1.gl.symm
    simp [f4, f6, ld36, l0, e36, hS1.gl, setLq2 l0, e37, -vload_ptrO]
    refine hK H1 g hx hS1.gl (fun i => ?_) ⟨l, hok, hle, tot_most hok hle hc fun w hw => hsat w hw hw⟩
    by_cases hi2 : i < 36
    · have := hgb (i / 6) (i % 6)
      have e : (flOf l g).g (i / 6) (i % 6) = g.getD i 0 := by
        show (if i / 6 < 6 ∧ i % 6 < 6 then g.getD (i / 6 * 6 + i % 6) 0 else 0) = _
        rw [if_pos ⟨by omega, by omega⟩]
        congr 1; omega
      rw [e] at this
      omega
    · rw [getD_big (by rw [hS1.gl]; omega)]; omega
end
end Go.Proofs.Ytlljkhhdhedajaa.Vm

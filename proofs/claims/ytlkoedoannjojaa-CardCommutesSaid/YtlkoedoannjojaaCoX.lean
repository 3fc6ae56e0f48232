/- Two cards that do not part: together they are a card, pure. -/
import Derived.Test.YtlkoedoannjojaaMeX
namespace Go.Proofs.Ytlkoedoannjojaa.Vm
open Go
set_option maxRecDepth 100000
set_option linter.unusedSimpArgs false
set_option linter.unusedVariables false
attribute [-simp] List.getD_eq_getElem?_getD
theorem cnt_max {a b : List En} (ha : valE a = 0) (hb : valE b = 0) {q : Int} : cntE a q a.length ≤ (a ++ firstL b a b.length).countP (fun x => decide (x.p = q)) := by
  rw [List.countP_append, ← cntE_countP]; omega
/-- a list holds the numbers 1 to n of a place: it has n entries of it at least -/
theorem mg_mem {a b : List En} (ha : valE a = 0) (hb : valE b = 0) {x : En} : x ∈ mgL a b 3 ↔ x ∈ a ∨ x ∈ firstL b a b.length := by
  rw [(mgL_perm ha hb).mem_iff, List.mem_append]
theorem firstL_of {a b : List En} {x : En} (hx : x ∈ b) (hn : hasN a x = false) : x ∈ firstL b a b.length := by
  obtain ⟨j, hj, rfl⟩ := mem_getD hx
  obtain ⟨i, hi, e⟩ := filE_in (g := fun i => !hasN a (b.getD i default)) (c := b) hj (by simp [hn])
  have := getD_mem hi
  rw [e] at this
  exact this
/-- what the second one has stands in the merged list -/
theorem mg_second {a b : List En} (h : cmpE a b = 0) {x : En} (hx : x ∈ b) : ∃ y ∈ mgL a b 3, y.p = x.p ∧ y.s = x.s ∧ y.a = x.a ∧ y.b = x.b ∧ y.c = x.c := by
  obtain ⟨ha, hb, _⟩ := cmp_ok h
  cases hN : hasN a x
  · exact ⟨x, (mg_mem ha hb).2 (Or.inr (firstL_of hx hN)), rfl, rfl, rfl, rfl, rfl⟩
  · obtain ⟨j, hj, rfl⟩ := mem_getD hx
    have hQ := q_two h hj
    rw [hN] at hQ
    obtain ⟨y, hy, e1, e2⟩ := hasN_iff.1 hN
    obtain ⟨i, hi, rfl⟩ := mem_getD hy
    rw [hasQ_at ha hi e1 e2] at hQ
    have hm := (mg_mem ha hb (x := a.getD i default)).2 (Or.inl (getD_mem hi))
    simp only [enEq, Bool.and_eq_true, decide_eq_true_eq] at hQ
    exact ⟨_, hm, e1, e2, hQ.2.2.1.symm, hQ.2.2.2.1.symm, hQ.2.2.2.2.1.symm⟩
theorem at_le {c : List En} {x : En} (h : rangB c x = true) {q : Int} (hq : 0 ≤ q ∧ q ≤ 2) : 0 ≤ x.at q.toNat ∧ x.at q.toNat ≤ cntE c q c.length := by
  rw [rang_iff] at h
  rcases (show q = 0 ∨ q = 1 ∨ q = 2 by omega) with rfl | rfl | rfl <;> simp [En.at, tri] <;> omega
/-- two cards that do not part are a card together -/
theorem val_mg {a b : List En} (h : cmpE a b = 0) (hl : (mgL a b 3).length ≤ 60) : valE (mgL a b 3) = 0 := by
  obtain ⟨ha, hb, _⟩ := cmp_ok h
  have hs := pw_sort (mgL_sort ha hb (n := 3))
  have hd := (mer_dist ha hb).perm (mgL_perm ha hb)
  have hfrom : ∀ x, x ∈ mgL a b 3 → x ∈ a ∨ x ∈ b := fun x hx => ((mg_mem ha hb).1 hx).imp id fun h => (firstL_mem h).1
  have h4 : ∀ x ∈ mgL a b 3, 1 ≤ x.s ∧ ∀ s', 1 ≤ s' → s' < x.s → ∃ y ∈ mgL a b 3, y.p = x.p ∧ y.s = s' := fun x hx => by
    rcases hfrom x hx with hx | hx
    · have hv := (val_mem ha hx).2.1
      refine ⟨hv.1, fun s' h1 h2 => ?_⟩
      obtain ⟨y, hy, e1, e2⟩ := val_has ha (q := x.p) (Nat.le_refl _) s' h1 (by omega)
      exact ⟨y, (mg_mem ha hb).2 (Or.inl hy), e1, e2⟩
    · have hv := (val_mem hb hx).2.1
      refine ⟨hv.1, fun s' h1 h2 => ?_⟩
      obtain ⟨y, hy, e1, e2⟩ := val_has hb (q := x.p) (Nat.le_refl _) s' h1 (by omega)
      obtain ⟨z, hz, f1, f2, _⟩ := mg_second h hy
      exact ⟨z, hz, by rw [f1, e1], by rw [f2, e2]⟩
  have top : ∀ x ∈ mgL a b 3, x.s ≤ cntE (mgL a b 3) x.p (mgL a b 3).length := fun x hx => by
    obtain ⟨i, hi, rfl⟩ := mem_getD hx
    have h1 := (h4 _ hx).1
    have := num_of hs hd h4 ((mgL a b 3).getD i default).s.toNat hi (by omega)
    have m := @cntE_mono (mgL a b 3) ((mgL a b 3).getD i default).p (i + 1) (mgL a b 3).length hi
    simp only [cntE, if_true] at m
    omega
  have ca : ∀ q, cntE a q a.length ≤ cntE (mgL a b 3) q (mgL a b 3).length := fun q => by
    by_cases e : cntE a q a.length = 0
    · omega
    · obtain ⟨y, hy, e1, e2⟩ := val_has ha (q := q) (Nat.le_refl _) (cntE a q a.length) (by omega) (Int.le_refl _)
      have := top y ((mg_mem ha hb).2 (Or.inl hy))
      rw [e1, e2] at this; omega
  have cb : ∀ q, cntE b q b.length ≤ cntE (mgL a b 3) q (mgL a b 3).length := fun q => by
    by_cases e : cntE b q b.length = 0
    · omega
    · obtain ⟨y, hy, e1, e2⟩ := val_has hb (q := q) (Nat.le_refl _) (cntE b q b.length) (by omega) (Int.le_refl _)
      obtain ⟨z, hz, f1, f2, _⟩ := mg_second h hy
      have := top z hz
      rw [f1, f2, e1, e2] at this; omega
  refine val_of hl hs hd (fun x hx => ?_) h4 fun x hx => ?_
  · rcases hfrom x hx with hx | hx
    · exact (val_mem ha hx).1
    · exact (val_mem hb hx).1
  · have a0 := ca 0
    have a1 := ca 1
    have a2 := ca 2
    have b0 := cb 0
    have b1 := cb 1
    have b2 := cb 2
    rcases hfrom x hx with hx | hx
    · obtain ⟨_, _, v3, v4, v5⟩ := val_mem ha hx
      refine ⟨v3, by rw [rang_iff] at v4 ⊢; omega, fun y hy => ?_⟩
      cases hse : seesB x y
      · rfl
      · have hse' := hse
        simp only [seesB, decide_eq_true_eq] at hse'
        have hpy : 0 ≤ y.p ∧ y.p ≤ 2 := by
          rcases hfrom y hy with h | h
          · exact (val_mem ha h).1.1
          · exact (val_mem hb h).1.1
        have hle := at_le v4 hpy
        obtain ⟨z, hz, e1, e2⟩ := val_has ha (q := y.p) (Nat.le_refl _) y.s (h4 y hy).1 (by omega)
        have := hd.eq ((mg_mem ha hb).2 (Or.inl hz)) hy e1 e2
        subst this
        have := v5 z hz
        rw [hse] at this; exact this
    · obtain ⟨_, _, v3, v4, v5⟩ := val_mem hb hx
      refine ⟨v3, by rw [rang_iff] at v4 ⊢; omega, fun y hy => ?_⟩
      cases hse : seesB x y
      · rfl
      · have hse' := hse
        simp only [seesB, decide_eq_true_eq] at hse'
        have hpy : 0 ≤ y.p ∧ y.p ≤ 2 := by
          rcases hfrom y hy with h | h
          · exact (val_mem ha h).1.1
          · exact (val_mem hb h).1.1
        have hle := at_le v4 hpy
        obtain ⟨z, hz, e1, e2⟩ := val_has hb (q := y.p) (Nat.le_refl _) y.s (h4 y hy).1 (by omega)
        obtain ⟨u, hu, f1, f2, f3, f4, f5⟩ := mg_second h hz
        have := hd.eq hu hy (by rw [f1, e1]) (by rw [f2, e2])
        subst this
        have := v5 z hz
        have es : seesB x z = seesB x u := by unfold seesB; rw [f1, f2]
        have el : lessB x z = lessB x u := by unfold lessB; rw [f3, f4, f5]
        rw [es, el, hse] at this; exact this
theorem ba_eq : ∀ {s t : ByteArray}, (s == t) = true → s = t
  | ⟨a⟩, ⟨b⟩, h => by
    have h : (a == b) = true := h
    rw [eq_of_beq h]
theorem enEq_eq {e f : En} (h : enEq e f = true) : e = f := by
  simp only [enEq, Bool.and_eq_true, decide_eq_true_eq] at h
  obtain ⟨h1, h2, h3, h4, h5, h6⟩ := h
  cases e; cases f
  simp only at h1 h2 h3 h4 h5 h6
  rw [h1, h2, h3, h4, h5, ba_eq h6]
/-- cards that do not part: entries of one place and number are the same -/
def Agree (a b : List En) : Prop := ∀ x ∈ a, ∀ y ∈ b, x.p = y.p → x.s = y.s → x = y
theorem Agree.symm {a b : List En} (h : Agree a b) : Agree b a := fun x hx y hy e1 e2 => (h y hy x hx e1.symm e2.symm).symm
theorem cmp_iff {a b : List En} : cmpE a b = 0 ↔ valE a = 0 ∧ valE b = 0 ∧ Agree a b := by
  constructor
  · intro h
    obtain ⟨ha, hb, hok⟩ := cmp_ok h
    refine ⟨ha, hb, fun x hx y hy e1 e2 => ?_⟩
    obtain ⟨i, hi, rfl⟩ := mem_getD hx
    obtain ⟨j, hj, rfl⟩ := mem_getD hy
    have q := q_one h hi
    rw [hasN_yes (x := a.getD i default) hj e1.symm e2.symm, hasQ_at hb hj e1.symm e2.symm] at q
    exact enEq_eq q
  · rintro ⟨ha, hb, hg⟩
    have : allN (okM a b) a.length = true := allN_of fun i hi => by
      unfold okM
      cases h : hasN b (a.getD i default)
      · rfl
      · obtain ⟨y, hy, e1, e2⟩ := hasN_iff.1 h
        obtain ⟨j, hj, rfl⟩ := mem_getD hy
        rw [hasQ_at hb hj e1 e2, ← hg _ (getD_mem hi) _ hy e1.symm e2.symm, enEq_refl]; rfl
    simp [cmpE, ha, hb, this]
theorem mg_iff {a b : List En} (h : cmpE a b = 0) {x : En} : x ∈ mgL a b 3 ↔ x ∈ a ∨ x ∈ b := by
  obtain ⟨ha, hb, hg⟩ := cmp_iff.1 h
  rw [mg_mem ha hb]
  constructor
  · exact fun h => h.imp id fun h => (firstL_mem h).1
  · rintro (h | h)
    · exact Or.inl h
    · cases hN : hasN a x
      · exact Or.inr (firstL_of h hN)
      · obtain ⟨y, hy, e1, e2⟩ := hasN_iff.1 hN
        rw [← hg y hy x h e1 e2]; exact Or.inl hy
theorem mg_dist {a b : List En} (h : cmpE a b = 0) : Dist (mgL a b 3) := by
  obtain ⟨ha, hb, _⟩ := cmp_iff.1 h
  exact (mer_dist ha hb).perm (mgL_perm ha hb)
theorem Dist.nodup {l : List En} (h : Dist l) : l.Nodup := h.imp fun hne e => hne ⟨by rw [e], by rw [e]⟩
/-- two sorted lists of the same entries -/
theorem same_of {l l' : List En} (h : Dist l) (h' : Dist l') (hs : SortR cfE 0 l.length l) (hs' : SortR cfE 0 l'.length l') (hm : ∀ x, x ∈ l' ↔ x ∈ l) : l' = l :=
  sort_uniq ((List.perm_ext_iff_of_nodup h'.nodup h.nodup).2 hm) h hs hs'
theorem mg_sorted {a b : List En} (h : cmpE a b = 0) : SortR cfE 0 (mgL a b 3).length (mgL a b 3) := by
  obtain ⟨ha, hb, _⟩ := cmp_iff.1 h
  exact pw_sort (mgL_sort ha hb)
theorem val_sorted {c : List En} (h : valE c = 0) : SortR cfE 0 c.length c := fun p q _ h2 h3 => by
  rw [cfE_le]
  have o := val_ord h h3 (Nat.le_of_lt h2)
  by_cases e : (c.getD p default).p = (c.getD q default).p
  · have := val_lt h h2 h3 e; omega
  · omega
theorem cmp_symm {a b : List En} (h : cmpE a b = 0) : cmpE b a = 0 := by
  rw [cmp_iff] at h ⊢; exact ⟨h.2.1, h.1, h.2.2.symm⟩
theorem mg_symm {a b : List En} (h : cmpE a b = 0) : mgL b a 3 = mgL a b 3 :=
  same_of (mg_dist h) (mg_dist (cmp_symm h)) (mg_sorted h) (mg_sorted (cmp_symm h)) fun x => by rw [mg_iff h, mg_iff (cmp_symm h)]; exact Or.comm
theorem cmp_self {a : List En} (h : valE a = 0) : cmpE a a = 0 := cmp_iff.2 ⟨h, h, fun x hx y hy e1 e2 => (val_dist h).eq hx hy e1 e2⟩
theorem mg_self {a : List En} (h : valE a = 0) : mgL a a 3 = a :=
  same_of (val_dist h) (mg_dist (cmp_self h)) (val_sorted h) (mg_sorted (cmp_self h)) fun x => by rw [mg_iff (cmp_self h)]; exact or_self_iff
theorem mer_iff {a b : List En} : merE a b = 0 ↔ cmpE a b = 0 ∧ (mgL a b 3).length ≤ 60 := by
  constructor
  · intro h
    have hc := mer_cmp h
    refine ⟨hc, ?_⟩
    have hl := mgL_length hc
    unfold merE at h
    rw [if_neg (by rw [hc]; simp)] at h
    split at h
    · cases h
    · omega
  · rintro ⟨hc, hl⟩
    have := mgL_length hc
    unfold merE
    rw [if_neg (by rw [hc]; simp), if_neg (by omega)]
open Classical in
theorem len_le {l l' : List En} (h : Dist l) (h' : Dist l') (hm : ∀ x, x ∈ l → x ∈ l') : l.length ≤ l'.length := by
  have hp : (l'.filter fun x => decide (x ∈ l)).Perm l := (List.perm_ext_iff_of_nodup (List.Pairwise.filter _ h'.nodup) h.nodup).2 fun x => by
    rw [List.mem_filter]
    constructor
    · exact fun h => by simpa using h.2
    · exact fun h => ⟨hm x h, by simpa using h⟩
  rw [← hp.length_eq]
  exact List.length_filter_le _ _
/-- three cards -/
theorem mer_three {a b c : List En} (h1 : merE a b = 0) (h2 : merE (mgL a b 3) c = 0) : merE b c = 0 ∧ merE a (mgL b c 3) = 0 ∧ mgL a (mgL b c 3) 3 = mgL (mgL a b 3) c 3 ∧ valE (mgL (mgL a b 3) c 3) = 0 := by
  obtain ⟨k1, l1⟩ := mer_iff.1 h1
  obtain ⟨k2, l2⟩ := mer_iff.1 h2
  obtain ⟨ha, hb, g1⟩ := cmp_iff.1 k1
  obtain ⟨hx, hc, g2⟩ := cmp_iff.1 k2
  have gb : Agree b c := fun x hx y hy => g2 x ((mg_iff k1).2 (Or.inr hx)) y hy
  have ga : Agree a c := fun x hx y hy => g2 x ((mg_iff k1).2 (Or.inl hx)) y hy
  have k3 : cmpE b c = 0 := cmp_iff.2 ⟨hb, hc, gb⟩
  have hall : ∀ x, x ∈ mgL (mgL a b 3) c 3 ↔ (x ∈ a ∨ x ∈ b) ∨ x ∈ c := fun x => by rw [mg_iff k2, mg_iff k1]
  have l3 : (mgL b c 3).length ≤ 60 := Nat.le_trans (len_le (mg_dist k3) (mg_dist k2) fun x hx => (hall x).2 (by rcases (mg_iff k3).1 hx with h | h; exact Or.inl (Or.inr h); exact Or.inr h)) l2
  have hv := val_mg k3 l3
  have k4 : cmpE a (mgL b c 3) = 0 := cmp_iff.2 ⟨ha, hv, fun x hx y hy => by
    rcases (mg_iff k3).1 hy with h | h
    · exact g1 x hx y h
    · exact ga x hx y h⟩
  have e : mgL a (mgL b c 3) 3 = mgL (mgL a b 3) c 3 := same_of (mg_dist k2) (mg_dist k4) (mg_sorted k2) (mg_sorted k4) fun x => by rw [hall, mg_iff k4, mg_iff k3, or_assoc]
  exact ⟨mer_iff.2 ⟨k3, l3⟩, mer_iff.2 ⟨k4, by rw [e]; exact l2⟩, e, val_mg k2 l2⟩
theorem mg_short {a b : List En} (h : merE a b = 0) (hsa : shortC a) (hsb : shortC b) : shortC (mgL a b 3) := by
  obtain ⟨k, l⟩ := mer_iff.1 h
  refine ⟨by omega, fun i hi => ?_⟩
  rcases (mg_iff k).1 (getD_mem hi) with h | h
  · obtain ⟨j, hj, e⟩ := mem_getD h
    rw [← e]; exact hsa.2 j hj
  · obtain ⟨j, hj, e⟩ := mem_getD h
    rw [← e]; exact hsb.2 j hj
section
variable {lim : Nat} {H : Hp} {K : V → Hp → Prop} {v w u : V} {a b c : List En}
theorem law_CardCommutes (hv : EnsV H v a ∧ a.length ≤ maxLen) (hw : EnsV H w b ∧ b.length ≤ maxLen) (hu : EnsV H u c ∧ c.length ≤ maxLen) (hlim : lim ≤ H.length) (hK : ∀ H', K (.bool true) H') : VCall tbl lim 8 [v, w, u] H K := by
  have ea := hv.1.1
  have eb := hw.1.1
  have ec := hu.1.1
  refine VCall_fn tbl_at8 rfl ?_
  simp [vf8, ea.stor]
  refine law_Long ea ?_
  cases hl : longC a
  case true =>
    simp
    refine law_known hlim fun H' _ => ?_
    simp
    exact hK _
  simp [eb.stor]
  refine law_Long eb ?_
  cases hl2 : longC b
  case true =>
    simp
    refine law_known hlim fun H' _ => ?_
    simp
    exact hK _
  simp [ec.stor]
  refine law_Long ec ?_
  cases hl3 : longC c
  case true =>
    simp
    refine law_known hlim fun H' _ => ?_
    simp
    exact hK _
  have sa := long_short hl
  have sb := long_short hl2
  have sc := long_short hl3
  simp [ea.stor, eb.stor]
  refine card_MergeG ea eb sa sb hlim fun H1 u1 x1 o1 => ?_
  replace x1 : HX H H1 := x1
  have l1 := x1.len
  simp [ea.stor, eb.stor, o1.lst.stor, o1.lst.one]
  refine card_MergeG (eb.mono x1) (ea.mono x1) sb sa (by omega) fun H2 u2 x2 o2 => ?_
  replace x2 : HX H1 H2 := x2
  have l2 := x2.len
  have x02 := x1.trans x2
  by_cases h1 : merE a b = 0
  case neg =>
    simp [eq_false h1, o1.lst.stor, o2.lst.stor, o2.lst.one]
    refine law_known (by omega) fun H' _ => ?_
    simp
    exact hK _
  obtain ⟨k1, n1⟩ := mer_iff.1 h1
  obtain ⟨ha, hb, _⟩ := cmp_iff.1 k1
  have h2 : merE b a = 0 := mer_iff.2 ⟨cmp_symm k1, by rw [mg_symm k1]; exact n1⟩
  have e1 : merL a b = mgL a b 3 := if_pos h1
  have e2 : merL b a = mgL a b 3 := by unfold merL; rw [if_pos h2, mg_symm k1]
  rw [e1] at o1
  rw [e2] at o2
  simp [h1, h2, o1.lst.stor, o2.lst.stor, o2.lst.one]
  refine ref_Same (o1.lst.mono x2) o2.lst (by omega) ?_
  simp [ea.stor]
  refine card_MergeG (ea.mono x02) (ea.mono x02) sa sa (by omega) fun H3 u3 x3 o3 => ?_
  replace x3 : HX H2 H3 := x3
  have l3 := x3.len
  have x03 := x02.trans x3
  have x13 := x2.trans x3
  have la := valE_small ha
  have h3 : merE a a = 0 := mer_iff.2 ⟨cmp_self ha, by rw [mg_self ha]; exact la⟩
  have e3 : merL a a = a := by unfold merL; rw [if_pos h3, mg_self ha]
  rw [e3] at o3
  simp [h3, ea.stor, o3.lst.stor, o3.lst.one]
  refine ref_Same o3.lst (ea.mono x03) (by omega) ?_
  simp [o1.lst.stor, ec.stor]
  have sx := mg_short h1 sa sb
  refine card_MergeG (o1.lst.mono x13) (ec.mono x03) sx sc (by omega) fun H4 u4 x4 o4 => ?_
  replace x4 : HX H3 H4 := x4
  have l4 := x4.len
  have x04 := x03.trans x4
  by_cases h4 : merE (mgL a b 3) c = 0
  case neg =>
    simp [eq_false h4, o4.lst.stor, o4.lst.one]
    refine law_known (by omega) fun H' _ => ?_
    simp
    exact hK _
  obtain ⟨t1, t2, t3, t4⟩ := mer_three h1 h4
  have e4 : merL (mgL a b 3) c = mgL (mgL a b 3) c 3 := if_pos h4
  have n4 := (mer_iff.1 h4).2
  rw [e4] at o4
  simp [h4, o4.lst.stor, o4.lst.one, eb.stor, ec.stor]
  refine card_MergeG (eb.mono x04) (ec.mono x04) sb sc (by omega) fun H5 u5 x5 o5 => ?_
  replace x5 : HX H4 H5 := x5
  have l5 := x5.len
  have x05 := x04.trans x5
  have e5 : merL b c = mgL b c 3 := if_pos t1
  rw [e5] at o5
  simp [t1, ea.stor, o5.lst.stor, o5.lst.one]
  refine card_MergeG (ea.mono x05) o5.lst sa (mg_short t1 sb sc) (by omega) fun H6 u6 x6 o6 => ?_
  replace x6 : HX H5 H6 := x6
  have l6 := x6.len
  have e6 : merL a (mgL b c 3) = mgL (mgL a b 3) c 3 := by unfold merL; rw [if_pos t2, t3]
  rw [e6] at o6
  have o46 := o4.lst.mono (x5.trans x6)
  simp [t2, o4.lst.stor, o6.lst.stor, o6.lst.one]
  refine ref_Same o46 o6.lst (by omega) ?_
  simp [o4.lst.stor]
  refine card_Validate o46 (mg_short h4 sx sc) fun H7 x7 => ?_
  replace x7 : HX H6 H7 := x7
  have l7 := x7.len
  rw [t4]
  simp
  refine law_known (by omega) fun H8 _ => ?_
  simp
  exact hK _
end
end Go.Proofs.Ytlkoedoannjojaa.Vm

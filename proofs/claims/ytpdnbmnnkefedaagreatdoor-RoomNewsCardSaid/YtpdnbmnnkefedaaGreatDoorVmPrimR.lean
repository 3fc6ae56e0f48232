/- Library functions as given contracts for the workroom: strings.Split, strconv.Atoi, stringslite.Index, strings.Trim, strings.Join; the lock; the deferring methods' helpers. -/
import Derived.Test.YtpdnbmnnkefedaaGreatDoorVmPrimRL
import Derived.Test.YtpdnbmnnkefedaaGreatDoorVmPrimI
import Derived.WalkSmall
namespace Go.Proofs.YtpdnbmnnkefedaaGreatDoor.Vm
open Go Go.Shelf Go.RowKit
set_option maxRecDepth 100000
set_option linter.unusedSimpArgs false
set_option linter.unusedVariables false
/-! strings.Split at one byte -/
theorem renCount : Tryz.laysSplit_ren.f 138 = 135 := by kernel_rfl
theorem renIndex : Tryz.laysSplit_ren.f 143 = 136 := by kernel_rfl
theorem renGen : Tryz.laysSplit_ren.f 221 = 102 := by kernel_rfl
theorem ren9 : Tryz.laysSplit_ren.t 9 = 9 := by kernel_rfl
theorem countB_one (s : ByteArray) (c : UInt8) : Lib.countB s ⟨#[c]⟩ = s.data.toList.count c := by
  show Lib.count s.data.toList [c] = _
  rw [Lib.count_one]
theorem gen_one (s : ByteArray) (c : UInt8) (w : World) (hs : s.size < 4294967281) :
    Calls Tryz.prog 102 #[.string s, .string ⟨#[c]⟩, .int .i64 0, .int .i64 (-1)] w fun e w' =>
      e = .returned (.slice (some ⟨w.heap.size, 0, none⟩) (Lib.countB s ⟨#[c]⟩ + 1) (Lib.countB s ⟨#[c]⟩ + 1)) ∧ w' = w.alloc (.cells ((Lib.splitB ⟨#[c]⟩ 0 (Lib.countB s ⟨#[c]⟩) s).map Value.string).toArray 9) := by
  have h1 : 1 ≤ (⟨#[c]⟩ : ByteArray).size := Nat.le_refl _
  have hle := Lib.countB_le ⟨#[c]⟩ h1 s.size s (Nat.le_refl _)
  have hlen := Lib.splitB_all ⟨#[c]⟩ h1 0 _ s rfl
  have q := Any.strings_genSplit_core (ρ := Tryz.laysSplit_ren) { Tryz.laysSplit with } (by kernel_rfl) s ⟨#[c]⟩ 0 (-1) (Lib.countB s ⟨#[c]⟩ + 1) w hs h1 (Nat.zero_le _)
    (fun x C hx => (Any.strings_Index_one { Tryz.laysSplit with } x c _).mono fun e w' ⟨he, hw⟩ => ⟨by
      rw [he]
      show Ending.returned (Value.int .i64 (Lib.indexByte x.data.toList c)) = Ending.returned (Value.int .i64 (Lib.index x.data.toList [c]))
      rw [Lib.index_one], hw⟩)
    ((Any.strings_Count_one { Tryz.laysSplit with } s c w).mono fun e w' ⟨he, hw⟩ => ⟨by
      rw [he, countB_one]; rfl, hw⟩)
    (by decide) (by decide) (by rw [if_pos (by decide)]; omega)
  rw [Nat.add_sub_cancel, hlen, renGen, ren9] at q
  have e2 : Lib.cellsOf (Lib.splitB ⟨#[c]⟩ 0 (Lib.countB s ⟨#[c]⟩) s) (Lib.countB s ⟨#[c]⟩ + 1) = ((Lib.splitB ⟨#[c]⟩ 0 (Lib.countB s ⟨#[c]⟩) s).map Value.string).toArray := by
    conv => lhs; rw [← hlen]
    exact Lib.cellsOf_full _
  rw [e2] at q
  exact q
/-- Split hands its callee's answer on -/
theorem split_on {P : Program} {ρ : Ren} (L : Lays.n146 P ρ) {s p : ByteArray} {w W : World} {V : Value} (q : Calls P (ρ.f 221) #[.string s, .string p, .int .i64 0, .int .i64 (-1)] w fun e w' => e = .returned V ∧ w' = W) :
    Calls P (ρ.f 146) #[.string s, .string p] w fun e w' => e = .returned V ∧ w' = W := by
  have t3 := L.t3; have t9 := L.t9; have t31 := L.t31
  have a3 := L.a3; have a9 := L.a9; have a31 := L.a31
  have z3 := L.z3; have v3 := L.v3; have z9 := L.z9; have v9 := L.v9; have z31 := L.z31; have v31 := L.v31
  have ent : ∀ args w, (callFunc (ρ.f 221) args).run P w = .ok (.enter (ρ.f 221) args) w := enters_of L.f221 (by kernel_rfl) rfl
  go_enter L.f146, Body.n146_ntmps ρ
  go_wp2_with (go_at_fn (ρ.f 221); refine q.mono ?_; rintro e w' ⟨rfl, hw⟩; rw [hw])
  go_ret
  exact ⟨rfl, rfl⟩
theorem renSplit : Tryz.laysSplit_ren.f 146 = 79 := by kernel_rfl
theorem split_one (s : ByteArray) (c : UInt8) (w : World) (hs : s.size < 4294967281) :
    Calls Tryz.prog 79 #[.string s, .string ⟨#[c]⟩] w fun e w' =>
      e = .returned (.slice (some ⟨w.heap.size, 0, none⟩) (Lib.countB s ⟨#[c]⟩ + 1) (Lib.countB s ⟨#[c]⟩ + 1)) ∧ w' = w.alloc (.cells ((Lib.splitB ⟨#[c]⟩ 0 (Lib.countB s ⟨#[c]⟩) s).map Value.string).toArray 9) := by
  have q := gen_one s c w hs
  rw [← renGen] at q
  have := split_on Tryz.laysSplit q
  rw [renSplit] at this
  exact this
def wordsB (s : ByteArray) (c : UInt8) : List ByteArray := Lib.splitB ⟨#[c]⟩ 0 (Lib.countB s ⟨#[c]⟩) s
def gSplit : List V → Option (List V)
  | [.str s, .str p] => match p.data.toList with
    | [c] => if s.size < 4294967281 then some ((wordsB s c).map V.str) else none
    | _ => none
  | _ => none
def pSplit : PrimF := rowP (fun _ => true) gSplit
theorem vrs_str {ρ : Loc} {l : List ByteArray} : VRs ρ (l.map V.str) (l.map Value.string) := by
  induction l with
  | nil => exact VRs.nil
  | cons a l ih => exact VRs.cons (.str a) ih
theorem pok_Split : PrimOk Tryz.prog 79 pSplit := by
  refine primOk_row (by kernel_rfl) fun args H cs ρ w xs hf hg hc hH hG hx => ?_
  unfold gSplit at hg
  split at hg
  case h_2 => cases hg
  rename_i s p
  split at hg
  case h_2 => cases hg
  rename_i c hp
  split at hg
  case isFalse => cases hg
  rename_i hs
  cases hg
  have hp : p = ⟨#[c]⟩ := by
    obtain ⟨⟨l⟩⟩ := p
    simp at hp
    rw [hp]
  subst hp
  have e1 := hx.1
  have e2 := hx.2 0 (by simp)
  have e3 := hx.2 1 (by simp)
  obtain ⟨xs⟩ := xs
  match xs, e1, e2, e3 with
  | [a, b], _, e2, e3 =>
    simp at e2 e3
    cases e2; cases e3
    refine (split_one s c w hs).mono fun e w' ⟨he, hw⟩ => ⟨?_, _, _, hw, ?_⟩
    · have hlen := Lib.splitB_all ⟨#[c]⟩ (Nat.le_refl 1) 0 _ s rfl
      rw [he]
      simp only [List.length_map, wordsB, hlen]
    · exact vrs_str
/-! strconv.Atoi -/
theorem renAtoi : Tryz.laysAtoi_ren.f 172 = 124 := by kernel_rfl
theorem renE1 : Tryz.laysAtoi_ren.g 15 = 1 := by kernel_rfl
theorem renE2 : Tryz.laysAtoi_ren.g 16 = 2 := by kernel_rfl
def gAtoi : List V → Option (V × Bool)
  | [.str s] => if s.size ≤ 281474976710656 then match Lib.atoiAll s.data.toList with
    | .ok v => some (.int .i64 v, true)
    | .syntax => some (.int .i64 0, false)
    | .range => some (.int .i64 (Lib.atoiSat s.data.toList), false) else none
  | _ => none
def isErr (H : Hp) (b : Nat) : Bool := match H[b]? with
  | some (.row [.iface _ (.ptr _ _)] _) => true
  | _ => false
def chkE (H : Hp) : Bool := isErr H 3 && isErr H 4
def teN : TypeId := 237
theorem renT : Tryz.laysAtoi_ren.t 168 = teN := by kernel_rfl
def pAtoi : PrimF := numP chkE teN gAtoi
theorem err_cell {ρ : Loc} {H : Hp} {w : World} (hH : RelH ρ H w) {b g c : Nat} (hr : isErr H b = true) (hρ : ρ b = some (g, 0, c)) : ∃ te pe, w.cell? ⟨g, 0, none⟩ = some (.iface te pe) := by
  unfold isErr at hr
  split at hr
  case h_2 => cases hr
  rename_i t b2 o own hb
  obtain ⟨C, el, fz, g1, g2, g3, g4, g5⟩ := hH.row b g 0 c _ own hρ hb
  have h3 := (g5 0 (by simp)).1
  simp only [List.getD_eq_getElem?_getD, List.getElem?_cons_zero, Option.getD_some, Nat.add_zero] at h3
  have hlt : 0 < C.size := by simp at g3; omega
  have e : C[0]? = some (C.getD 0 ux) := by rw [Array.getD_eq_getD_getElem?, Array.getElem?_eq_getElem hlt]; rfl
  generalize hy : C.getD 0 ux = y at h3 e
  cases h3
  rename_i y' hy'
  exact ⟨t, y', by simp [World.cell?, g1, e]⟩
theorem glE1 : ∃ cs, glMap[3]? = some (some 1, cs) := ⟨_, rfl⟩
theorem glE2 : ∃ cs, glMap[4]? = some (some 2, cs) := ⟨_, rfl⟩
theorem pok_Atoi : PrimOk Tryz.prog 124 pAtoi := by
  refine primOk_num (by kernel_rfl) fun args H v ok ρ w xs hf hg hc hH hG hx => ?_
  unfold gAtoi at hg
  split at hg
  case h_2 => cases hg
  rename_i s
  split at hg
  case isFalse => cases hg
  rename_i hs
  simp only [chkE, Bool.and_eq_true] at hc
  obtain ⟨cs1, l1⟩ := glE1
  obtain ⟨cs2, l2⟩ := glE2
  obtain ⟨t1, p1, c1⟩ := err_cell hH hc.1 (hG 3 1 cs1 l1)
  obtain ⟨t2, p2, c2⟩ := err_cell hH hc.2 (hG 4 2 cs2 l2)
  have e1 := hx.1
  have e2 := hx.2 0 (by simp)
  obtain ⟨xs⟩ := xs
  match xs, e1, e2 with
  | [a], _, e2 =>
    simp at e2
    cases e2
    split at hg
    · rename_i n hn
      cases hg
      have q := Any.strconv_Atoi_ok Tryz.laysAtoi s (by omega) n hn w
      rw [renAtoi] at q
      refine q.mono fun e w' ⟨he, hw⟩ => ⟨?_, _, .int _ _, by rw [if_pos rfl]; exact he⟩
      rcases hw with rfl | ⟨t, rfl⟩
      · exact Below.refl _ _
      · exact Lib.bytesWorld_below _ _ _
    · rename_i hn
      cases hg
      have q := Any.strconv_Atoi_syntax Tryz.laysAtoi s hs hn (.iface t1 p1) w (by rw [renE1]; exact c1) (.inr ⟨_, _, rfl⟩)
      rw [renAtoi, renT] at q
      refine q.mono fun e w' ⟨N, he, h1, h2, h3⟩ => ⟨h3, _, .int _ _, ?_⟩
      rw [if_neg (by decide)]
      exact ⟨N, he, h1, (Array.getElem?_eq_some_iff.1 h2).1⟩
    · rename_i hn
      cases hg
      have q := Any.strconv_Atoi_range Tryz.laysAtoi s hs hn (.iface t2 p2) w (by rw [renE2]; exact c2) (.inr ⟨_, _, rfl⟩)
      rw [renAtoi, renT] at q
      refine q.mono fun e w' ⟨N, he, h1, h2, h3⟩ => ⟨h3, _, .int _ _, ?_⟩
      rw [if_neg (by decide)]
      exact ⟨N, he, h1, (Array.getElem?_eq_some_iff.1 h2).1⟩
theorem vrs_nil {ρ : Loc} {l : List Value} (h : VRs ρ [] l) : l = [] := by
  have := h.1
  cases l <;> simp_all
theorem vrs_cons {ρ : Loc} {v : V} {vs : List V} {l : List Value} (h : VRs ρ (v :: vs) l) : ∃ x l', l = x :: l' ∧ VR ρ v x ∧ VRs ρ vs l' := by
  obtain ⟨h1, h2⟩ := h
  match l, h1 with
  | x :: l', h1 =>
    refine ⟨x, l', rfl, by simpa using h2 0 (by simp), by simpa using h1, fun i hi => ?_⟩
    simpa using h2 (i + 1) (by simpa using hi)
theorem primOk_pure {P : Program} {f : FuncId} {g : List V → Option V} (hb : bodied P f = true)
    (h : ∀ (args : List V) (v : V) (ρ : Loc) (w : World) (xs : Array Value), g args = some v → VRs ρ args xs.toList → Calls P f xs w fun e w' => ∃ x, e = .returned x ∧ VR ρ v x ∧ RowKit.Below w.heap.size w w') :
    PrimOk P f (fun args _ => match g args with | some v => some (v, []) | none => none) := by
  refine ⟨hb, fun lim args H v bs ρ w xs hg hH hG hx hf => ?_⟩
  dsimp only at hg
  split at hg
  case h_2 => cases hg
  rename_i v' hv
  cases hg
  refine (h args v ρ w xs hv hx).mono ?_
  rintro e w' ⟨x, he, hvx, hbl⟩
  rw [List.append_nil]
  exact ⟨x, ρ, he, hvx, .of_below hbl, hH.keep hbl.size hbl.block⟩
/-! stringslite.Index at one byte -/
theorem renIx : Tryz.laysIndex_ren.f 219 = 93 := by kernel_rfl
def gIndex : List V → Option V
  | [.str s, .str p] => match p.data.toList with
    | [c] => some (.int .i64 (Lib.indexByte s.data.toList c))
    | _ => none
  | _ => none
def pIndex : PrimF := fun args _ => match gIndex args with
  | some v => some (v, [])
  | none => none
theorem pok_Index : PrimOk Tryz.prog 93 pIndex := by
  refine primOk_pure (by kernel_rfl) fun args v ρ w xs hg hx => ?_
  obtain ⟨xs⟩ := xs
  have hz : VRs ρ args xs := hx
  clear hx
  unfold gIndex at hg
  split at hg
  case h_2 => cases hg
  rename_i s p
  split at hg
  case h_2 => cases hg
  rename_i c hp
  cases hg
  have hp : p = ⟨#[c]⟩ := by
    obtain ⟨⟨l⟩⟩ := p
    simp at hp
    rw [hp]
  subst hp
  obtain ⟨x1, l1, rfl, h1, k1⟩ := vrs_cons hz
  obtain ⟨x2, l2, rfl, h2, k2⟩ := vrs_cons k1
  cases vrs_nil k2; cases h1; cases h2
  have q := Any.stringslite_Index_one Tryz.laysIndex s c w
  rw [renIx] at q
  exact q.mono fun e w' ⟨he, hw⟩ => ⟨_, he, .int _ _, by rw [hw]; exact Below.refl _ _⟩
/-! strings.Trim: a set of plain letters -/
theorem renTrim : Tryz.laysTrim_ren.f 160 = 164 := by kernel_rfl
def gTrim : List V → Option V
  | [.str s, .str c] => if 2 ≤ c.size ∧ 0 < s.size ∧ s.size ≤ 1000000 ∧ c.size ≤ 1000000 ∧ (c.data.toList.all fun b => decide (b.toNat < 128)) = true then some (.str ⟨(Lib.trimS s.data.toList c.data.toList).toArray⟩) else none
  | _ => none
def pTrim : PrimF := fun args _ => match gTrim args with
  | some v => some (v, [])
  | none => none
theorem trim_zero : ∀ w, (zeroValue (Tryz.laysTrim_ren.t 116)).run Tryz.prog w = .ok (.agg (Array.replicate 256 (.bool false))) w := fun w => by kernel_rfl
theorem trim_size : (Tryz.prog.info? (Tryz.laysTrim_ren.t 116)).map (·.size) = some 256 := by kernel_rfl
theorem pok_Trim : PrimOk Tryz.prog 164 pTrim := by
  refine primOk_pure (by kernel_rfl) fun args v ρ w xs hg hx => ?_
  obtain ⟨xs⟩ := xs
  have hz : VRs ρ args xs := hx
  clear hx
  unfold gTrim at hg
  split at hg
  case h_2 => cases hg
  rename_i s c
  split at hg
  case isFalse => cases hg
  rename_i hc
  obtain ⟨c1, c2, c3, c4, c5⟩ := hc
  cases hg
  obtain ⟨x1, l1, rfl, h1, k1⟩ := vrs_cons hz
  obtain ⟨x2, l2, rfl, h2, k2⟩ := vrs_cons k1
  cases vrs_nil k2; cases h1; cases h2
  have q := Any.strings_Trim_set Tryz.laysTrim trim_zero trim_size s c w c1 c2 (by omega) (by omega) (fun j b hb => by
    have := List.all_eq_true.1 c5 b (List.mem_of_getElem? hb)
    simpa using this)
  rw [renTrim] at q
  refine q.mono fun e w' ⟨he, n, hw⟩ => ⟨_, he, .str _, ?_⟩
  rw [hw]
  exact below_drewN (((Below.refl _ _).alloc (Nat.le_refl _) _).alloc (by simp) _) n
/-! strings.Join -/
theorem renJoin : Tryz.laysJoin_ren.f 156 = 56 := by kernel_rfl
def strsOf : List V → Option (List ByteArray)
  | [] => some []
  | .str s :: r => (strsOf r).map (s :: ·)
  | _ :: _ => none
theorem strsOf_at : ∀ {cs : List V} {xs : List ByteArray}, strsOf cs = some xs → cs = xs.map V.str
  | [], xs, h => by cases h; rfl
  | c :: cs, xs, h => by
    cases c with
    | str s =>
      simp only [strsOf] at h
      cases hr : strsOf cs with
      | none => rw [hr] at h; cases h
      | some ys =>
        rw [hr] at h
        cases h
        rw [strsOf_at hr]; rfl
    | _ => cases h
def pJoin : PrimF := fun args H => match args with
  | [.snil, .str sep] => some (.str ⟨#[]⟩, [])
  | [.sl b off n sz, .str sep] => match H[b]? with
    | some (.row cs _) => if off + n ≤ cs.length ∧ sz = 1 ∧ n ≤ 1000000 then match strsOf ((cs.drop off).take n) with
      | some xs => if (Lib.join (xs.map (·.data.toList)) sep.data.toList).length ≤ 1000000000 then some (.str ⟨(Lib.join (xs.map (·.data.toList)) sep.data.toList).toArray⟩, []) else none
      | none => none else none
    | _ => none
  | _ => none
theorem pok_Join : PrimOk Tryz.prog 56 pJoin := by
  refine ⟨by kernel_rfl, fun lim args H v bs ρ w xs hg hH hG hx hf => ?_⟩
  have fin : ∀ {s : ByteArray}, (Calls Tryz.prog 56 xs w fun e w' => e = .returned (.string s) ∧ Below w.heap.size w w') → Calls Tryz.prog 56 xs w fun e w' => ∃ x ρ', e = .returned x ∧ VR ρ' (.str s) x ∧ Grow lim (fun _ => True) ρ (fun _ => none) [] H w ρ' (fun _ => none) [] (H ++ []) w' ∧ RelH ρ' (H ++ []) w' := fun {s} q => by
    refine q.mono fun e w' ⟨he, hb⟩ => ?_
    rw [List.append_nil]
    exact ⟨_, ρ, he, .str _, .of_below hb, hH.keep hb.size hb.block⟩
  obtain ⟨ys⟩ := xs
  have hz : VRs ρ args ys := hx
  unfold pJoin at hg
  split at hg
  case h_3 => cases hg
  · cases hg
    obtain ⟨x1, l1, rfl, h1, k1⟩ := vrs_cons hz
    obtain ⟨x2, l2, rfl, h2, k2⟩ := vrs_cons k1
    cases vrs_nil k2; cases h2
    rename_i sep
    cases h1
    refine fin ?_
    have q := Any.strings_Join_none Tryz.laysJoin Tryz.extraJ none 0 sep w
    rw [renJoin] at q
    exact q.mono fun e w' ⟨he, hw⟩ => ⟨he, hw ▸ Below.refl _ _⟩
  · rename_i b off n sz sep
    split at hg
    case h_2 => cases hg
    rename_i cs own hb
    split at hg
    case isFalse => cases hg
    rename_i hle
    split at hg
    case h_2 => cases hg
    rename_i zs hs
    split at hg
    case isFalse => cases hg
    rename_i hjl
    cases hg
    obtain ⟨x1, l1, rfl, h1, k1⟩ := vrs_cons hz
    obtain ⟨x2, l2, rfl, h2, k2⟩ := vrs_cons k1
    cases vrs_nil k2; cases h2
    obtain ⟨hle, rfl, hn1⟩ := hle
    have hcs := strsOf_at hs
    have hzl : zs.length = n := by
      have := congrArg List.length hcs
      simp at this; omega
    cases h1 with
    | sl r1 r2 r3 =>
      rename_i r o c cap
      obtain ⟨C, el, fz, g1, g2, g3, g4, g5⟩ := hH.row b r o c cs own r1 hb
      refine fin ?_
      have hcells : ∀ (j : Nat) x, zs[j]? = some x → w.cell? ⟨r, (o + off) + j, none⟩ = some (.string x) := fun j x hj => by
        have hjn : j < n := by rw [← hzl]; exact (List.getElem?_eq_some_iff.1 hj).1
        have e1 : cs.getD (off + j) dv = .str x := by
          have : ((cs.drop off).take n)[j]? = some (.str x) := by rw [hcs, List.getElem?_map, hj]; rfl
          rw [List.getElem?_take_of_lt hjn, List.getElem?_drop] at this
          rw [List.getD_eq_getElem?_getD, this]; rfl
        have h5 := (g5 (off + j) (by omega)).1
        rw [e1] at h5
        have hlt : o + (off + j) < C.size := by omega
        rw [Array.getD_eq_getD_getElem?, Array.getElem?_eq_getElem hlt] at h5
        have e2 : (o + off) + j = o + (off + j) := by omega
        simp only [Option.getD_some] at h5
        generalize hy : C[o + (off + j)] = y at h5
        cases h5
        simp [World.cell?, g1, e2, hlt, hy]
      have hdom := hH.dom b r o c r1
      have q := Any.strings_Join Tryz.laysJoin Tryz.extraJ r (o + off) cap zs sep w hcells hdom (by omega) (by omega) (by omega)
      rw [renJoin, hzl] at q
      exact q
def vf79 : VFn := ⟨2, [], .prim pSplit⟩
theorem pok79 : PrimOk Tryz.prog 79 pSplit := pok_Split
def vf124 : VFn := ⟨1, [], .prim pAtoi⟩
theorem pok124 : PrimOk Tryz.prog 124 pAtoi := pok_Atoi
def vf93 : VFn := ⟨2, [], .prim pIndex⟩
theorem pok93 : PrimOk Tryz.prog 93 pIndex := pok_Index
def vf164 : VFn := ⟨2, [], .prim pTrim⟩
theorem pok164 : PrimOk Tryz.prog 164 pTrim := pok_Trim
def vf56 : VFn := ⟨2, [], .prim pJoin⟩
theorem pok56 : PrimOk Tryz.prog 56 pJoin := pok_Join
/-! the lock -/
def vf31 : VFn := lockV 0 1
theorem hok31 : HandOk Tryz.prog 31 vf31 := hok_lock Tryz.muLib (by kernel_rfl)
def vf32 : VFn := lockV 1 0
theorem hok32 : HandOk Tryz.prog 32 vf32 := hok_unlock Tryz.muLib (by kernel_rfl)
theorem mixedO : Tryz.prog.follows .mixedOrders = true := by kernel_rfl
end Go.Proofs.YtpdnbmnnkefedaaGreatDoor.Vm

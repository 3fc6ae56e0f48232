/- The workroom: what a nil room answers, and what a new one has (RoomNews). -/
import Derived.Test.YtpdnbmnnkefedaaGreatDoorRnL
namespace Go.Proofs.YtpdnbmnnkefedaaGreatDoor.Vm
open Go
set_option maxRecDepth 100000
set_option maxHeartbeats 1000000
set_option linter.unusedSimpArgs false
set_option linter.unusedVariables false
attribute [-simp] List.getD_eq_getElem?_getD
/-- a new room beside one of the document's -/
def eqH0 : Hp := kH0 ++ [.row [.snil, .snil, .snil, .snil, (.int .i64 0), (.int .i64 0), (.int .i64 0), (.str ⟨#[]⟩), (.int .i64 0)] true]
theorem equal_ran : isTrue (evFn (knT tbl qR) 400 0 22 [.ptr 0 0, .ptr 1 0] eqH0) = true := by kernel_rfl
theorem audit_ran : isTrue (evFn (knT tbl qR) 400 0 20 [.ptr 0 0] (hpOf (evFn (knT tbl qR) 400 0 22 [.ptr 0 0, .ptr 1 0] eqH0))) = true := by kernel_rfl
theorem chk_E {H : Hp} (h : HX glHp H) : chkE H = true := by
  obtain ⟨X, rfl⟩ := h
  exact chkE_app (by kernel_rfl)
theorem chk_P {H : Hp} (h : HX glHp H) : chkP H = true := by
  obtain ⟨X, rfl⟩ := h
  exact chkP_app (by kernel_rfl)
theorem vcall_at {T0 T : Tbl} {n lim : Nat} {f : FuncId} {G H0 H' : Hp} {args args' : List V} {K : V → Hp → Prop} (hT : ShT G T0 T) (h : isTrue (evFn T0 n 0 f args H0) = true) (hlim : lim ≤ G.length)
    (ea : args' = shs G.length args) (eh : H' = shH G H0) (hK : K (.bool true) (shH G (hpOf (evFn T0 n 0 f args H0)))) : VCall T lim f args' H' K := by
  subst ea eh
  exact vcall_ran hT h hlim hK
section
variable {lim : Nat} {H : Hp} {K : V → Hp → Prop} {s : ByteArray}
abbrev zWig : List V := [.str ⟨#[]⟩, .str ⟨#[]⟩, .int .i64 0, .int .i64 0, .int .i64 0, .int .i64 0, .int .i64 0, .int .i64 0, .int .i64 0, .str ⟨#[]⟩, .int .i64 0, .int .i64 0]
theorem nil_Bundle (hK : K (.tup [.agg [.snil, .snil], .int .i64 1]) H) : VCall tbl lim 9 [.pnil, .str s] H K := by
  refine VCall_fn tbl_at9 rfl ?_
  simp [vf9, defF, defC, retE, vs9]
  exact hK
theorem nil_Wig (hK : K (.tup [.agg zWig, .int .i64 1]) H) : VCall tbl lim 10 [.pnil, .str s] H K := by
  refine VCall_fn tbl_at10 rfl ?_
  simp [vf10, defF, defC, retE, vs10]
  exact hK
theorem nil_Card (hK : K (.tup [.snil, .int .i64 1]) H) : VCall tbl lim 11 [.pnil, .str s] H K := by
  refine VCall_fn tbl_at11 rfl ?_
  simp [vf11, defF, defC, retE, vs11]
  exact hK
theorem nil_Do (hK : K (.int .i64 1) H) : VCall tbl lim 12 [.pnil, .str s] H K := by
  refine VCall_fn tbl_at12 rfl ?_
  simp [vf12, defF, defC, retE, vs12]
  exact hK
theorem nil_Bundles (hK : K .snil H) : VCall tbl lim 14 [.pnil] H K := by
  refine VCall_fn tbl_at14 rfl ?_
  simp [vf14, defF, defC, retE, vs14]
  exact hK
theorem nil_Wigs (hK : K .snil H) : VCall tbl lim 15 [.pnil] H K := by
  refine VCall_fn tbl_at15 rfl ?_
  simp [vf15, defF, defC, retE, vs15]
  exact hK
theorem nil_Audit (hK : K (.bool false) H) : VCall tbl lim 20 [.pnil] H K := by
  refine VCall_fn tbl_at20 rfl ?_
  simp [vf20, defF, defC, retE, vs20]
  exact hK
theorem nil_Bought (hK : K (.int .i64 0) H) : VCall tbl lim 16 [.pnil] H K :=
  VCall_prim (args := [.pnil]) (v := .int .i64 0) (bs := []) tbl_at16 rfl rfl rfl (by simpa using hK)
theorem nil_Lost (hK : K (.int .i64 0) H) : VCall tbl lim 17 [.pnil] H K :=
  VCall_prim (args := [.pnil]) (v := .int .i64 0) (bs := []) tbl_at17 rfl rfl rfl (by simpa using hK)
theorem nil_Cash (hK : K (.int .i64 0) H) : VCall tbl lim 18 [.pnil] H K :=
  VCall_prim (args := [.pnil]) (v := .int .i64 0) (bs := []) tbl_at18 rfl rfl rfl (by simpa using hK)
theorem nil_Day (hK : K (.str ⟨#[]⟩) H) : VCall tbl lim 19 [.pnil] H K :=
  VCall_prim (args := [.pnil]) (v := .str ⟨#[]⟩) (bs := []) tbl_at19 rfl rfl rfl (by simpa using hK)
theorem new_room (hK : K (.ptr H.length 0) (shH H kH0)) : VCall tbl lim 21 [] H K := by
  refine VCall_fn tbl_at21 rfl ?_
  simp [vf21]
  simpa [shH, kH0, shB, shs, sh] using hK
theorem same_ran : evFn (knT tbl qR) 100 0 13 [.agg zWig, .agg zWig] [] = some (.bool true, []) := by kernel_rfl
theorem neq_e : vbin .neq (.str ⟨#[]⟩) (.str ⟨#[]⟩) = some (.bool false) := by kernel_rfl
theorem law_RoomNews {o : ByteArray} (hg : HX glHp H) (hlim : lim ≤ H.length) (hK : ∀ H', K (.bool true) H') : VCall tbl lim 3 [.str o, .str s] H K := by
  have hc : chkE H = true := chk_E hg
  have hp : chkP H = true := chk_P hg
  have hT := sh_qR hc hp
  refine VCall_fn tbl_at3 rfl ?_
  simp [vf3]
  refine nil_Bundle ?_
  simp
  refine nil_Wig ?_
  simp [splice]
  refine nil_Card ?_
  simp
  refine nil_Do ?_
  simp
  refine vstep hT same_ran hlim (show _ = shs H.length _ by simp [shs, sh]) (show _ = shH H [] by simp [shH]) ?_
  simp [sh, shH]
  refine nil_Bundles ?_
  simp
  refine nil_Wigs ?_
  simp
  refine nil_Bought ?_
  simp
  refine nil_Lost ?_
  simp
  refine nil_Cash ?_
  simp
  refine nil_Day ?_
  simp [neq_e]
  refine nil_Audit ?_
  simp
  refine new_room ?_
  simp
  have hl0 : (shH H kH0).length = 1 + H.length := by rw [shH_len]; rfl
  refine vcall_at hT equal_ran hlim (show _ = shs H.length _ by simp [shs, sh, hl0]) (show _ = shH H _ by simp [eqH0, shH, shB, shs, sh]) ?_
  simp
  refine vcall_at hT audit_ran hlim (show _ = shs H.length _ by simp [shs, sh]) rfl ?_
  simp
  refine law_known (chkE_app hc) (chkP_app hp) (by rw [shH_len]; omega) fun H' => ?_
  simp
  exact hK _
end
end Go.Proofs.YtpdnbmnnkefedaaGreatDoor.Vm

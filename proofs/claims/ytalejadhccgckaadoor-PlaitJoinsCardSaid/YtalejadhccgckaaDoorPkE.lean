/- The laws of layer 6, as the rows want them. -/
import Derived.Test.YtalejadhccgckaaDoorPkD
import Derived.Test.YtalejadhccgckaaDoorPkR
import Derived.LaidMore
import GoSem.PinnedTables
namespace Go.Proofs.YtalejadhccgckaaDoor.Vm
open Go
set_option maxRecDepth 100000
set_option linter.unusedSimpArgs false
set_option linter.unusedVariables false
attribute [-simp] List.getD_eq_getElem?_getD
/-- a start in which the pinned table stands as well -/
noncomputable def wit (os : Os) : World :=
  { World.doorLaid Tryd.prog 400 os with heap := (World.doorLaid Tryd.prog 400 os).heap.modify 1 fun
      | .cells _ e f => .cells (Pinned.utf8FirstZ.map fun (n : Nat) => Value.int .u8 (n : Int)).toArray e f
      | o => o }
theorem chk_gl : chkU8 glHp = true := by kernel_rfl
theorem chk_of {H : Hp} (h : HX glHp H) : chkU8 H = true := by
  have hc := chk_gl
  simp only [chkU8, Bool.and_eq_true] at hc ⊢
  have key : ∀ b t, rowIs glHp b t = true → rowIs H b t = true := by
    intro b t hr
    unfold rowIs at hr ⊢
    split at hr
    case h_2 => cases hr
    rename_i cs own hb
    rw [h.get hb]; exact hr
  exact ⟨key _ _ hc.1, key _ _ hc.2⟩
theorem law_PlaitMatrices {H : Hp} {lim : Nat} {u v : ByteArray} {K : V → Hp → Prop} (hH : HX glHp H) (hlim : lim ≤ H.length) (h1 : u.size ≤ maxLen) (h2 : v.size ≤ maxLen) (hK : ∀ X, K (.bool true) (H ++ X)) : VCall tbl lim 7 [.str u, .str v] H K := lw_PlaitMatrices (chk_of hH) hlim hK
end Go.Proofs.YtalejadhccgckaaDoor.Vm

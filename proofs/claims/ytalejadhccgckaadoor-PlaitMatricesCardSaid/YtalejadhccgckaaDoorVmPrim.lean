/- Library functions whose contracts the kit's shelf holds, as given contracts of the machine: strings.Repeat; strings.Map of the two functions that plait hands it. -/
import Derived.Test.YtalejadhccgckaaDoorVmRules
import Derived.Test.YtalejadhccgckaaDoorChecked
import Derived.Shelf.Strings.Repeat
import Derived.Shelf.Strings.MapAny
import Derived.KernelRfl
namespace Go.Proofs.YtalejadhccgckaaDoor
open Go Go.Shelf Go.RowKit
def Tryd.laysRepeat_ren:Go.Shelf.Ren:=⟨fun | 105=>62 | 212=>80 | 99=>81 | 165=>82 | 166=>83 | 170=>84 | 169=>85 | 263=>94 | 264=>95 | 206=>96 | 240=>97 | 241=>98 | 276=>107 | 277=>108 | n=>n,fun | 9=>9 | 3=>3 | 4=>4 | 20=>20 | 0=>0 | 46=>73 | 109=>86 | 5=>5 | 72=>90 | 76=>94 | 51=>99 | 146=>100 | 53=>102 | 148=>103 | 70=>88 | 37=>84 | 75=>93 | 127=>105 | 164=>112 | 80=>77 | n=>n,fun | n=>n⟩
theorem Tryd.laysRepeat:Go.Proofs.Lays.n105 Tryd.prog Tryd.laysRepeat_ren:={
  mixed:=by kernel_rfl
  f99:=Tryd.func81.trans (congrArg some (by kernel_rfl))
  f105:=Tryd.func62.trans (congrArg some (by kernel_rfl))
  f165:=Tryd.func82.trans (congrArg some (by kernel_rfl))
  f166:=Tryd.func83.trans (congrArg some (by kernel_rfl))
  f169:=Tryd.func85.trans (congrArg some (by kernel_rfl))
  f170:=Tryd.func84.trans (congrArg some (by kernel_rfl))
  f206:=Tryd.func96.trans (congrArg some (by kernel_rfl))
  f212:=Tryd.func80.trans (congrArg some (by kernel_rfl))
  f240:=Tryd.func97.trans (congrArg some (by kernel_rfl))
  f241:=Tryd.func98.trans (congrArg some (by kernel_rfl))
  f263:=Tryd.func94.trans (congrArg some (by kernel_rfl))
  f264:=Tryd.func95.trans (congrArg some (by kernel_rfl))
  f276:=Tryd.func107.trans (congrArg some (by kernel_rfl))
  f277:=Tryd.func108.trans (congrArg some (by kernel_rfl))
  t0:=Tryd.underlying0
  a0:=Tryd.isAgg0
  z0:=Tryd.sizeOf0
  v0:=Tryd.zeroValue0
  t3:=Tryd.underlying3
  a3:=Tryd.isAgg3
  z3:=Tryd.sizeOf3
  v3:=Tryd.zeroValue3
  t4:=Tryd.underlying4
  a4:=Tryd.isAgg4
  z4:=Tryd.sizeOf4
  v4:=Tryd.zeroValue4
  t5:=Tryd.underlying5
  a5:=Tryd.isAgg5
  z5:=Tryd.sizeOf5
  v5:=Tryd.zeroValue5
  t9:=Tryd.underlying9
  a9:=Tryd.isAgg9
  z9:=Tryd.sizeOf9
  v9:=Tryd.zeroValue9
  t20:=Tryd.underlying20
  a20:=Tryd.isAgg20
  z20:=Tryd.sizeOf20
  v20:=Tryd.zeroValue20
  t37:=Tryd.underlying84
  a37:=Tryd.isAgg84
  z37:=Tryd.sizeOf84
  v37:=Tryd.zeroValue84
  t46:=Tryd.underlying73
  a46:=Tryd.isAgg73
  z46:=Tryd.sizeOf73
  v46:=Tryd.zeroValue73
  t51:=Tryd.underlying99
  a51:=Tryd.isAgg99
  z51:=Tryd.sizeOf99
  v51:=Tryd.zeroValue99
  t53:=Tryd.underlying102
  a53:=Tryd.isAgg102
  z53:=Tryd.sizeOf102
  v53:=Tryd.zeroValue102
  t70:=Tryd.underlying88
  a70:=Tryd.isAgg88
  z70:=Tryd.sizeOf88
  v70:=Tryd.zeroValue88
  t72:=Tryd.underlying90
  a72:=Tryd.isAgg90
  z72:=Tryd.sizeOf90
  v72:=Tryd.zeroValue90
  t75:=Tryd.underlying93
  a75:=Tryd.isAgg93
  z75:=Tryd.sizeOf93
  v75:=Tryd.zeroValue93
  t76:=Tryd.underlying94
  a76:=Tryd.isAgg94
  z76:=Tryd.sizeOf94
  v76:=Tryd.zeroValue94
  t109:=Tryd.underlying86
  a109:=Tryd.isAgg86
  z109:=Tryd.sizeOf86
  v109:=Tryd.zeroValue86
  t127:=Tryd.underlying105
  a127:=Tryd.isAgg105
  z127:=Tryd.sizeOf105
  v127:=Tryd.zeroValue105
  t146:=Tryd.underlying100
  a146:=Tryd.isAgg100
  z146:=Tryd.sizeOf100
  v146:=Tryd.zeroValue100
  t148:=Tryd.underlying103
  a148:=Tryd.isAgg103
  z148:=Tryd.sizeOf103
  v148:=Tryd.zeroValue103
  t164:=Tryd.underlying112
  a164:=Tryd.isAgg112
  z164:=Tryd.sizeOf112
  v164:=Tryd.zeroValue112 }
def Tryd.laysMap_ren:Go.Shelf.Ren:=⟨fun | 230=>86 | 197=>99 | 118=>100 | 165=>82 | 166=>83 | 168=>101 | 270=>102 | 167=>103 | 169=>85 | 260=>109 | 240=>97 | 241=>98 | 242=>110 | 276=>107 | 277=>108 | 278=>111 | n=>n,fun | 107=>56 | 9=>9 | 72=>90 | 0=>0 | 4=>4 | 3=>3 | 21=>21 | 105=>106 | 76=>94 | 5=>5 | 75=>93 | 70=>88 | 20=>20 | 37=>84 | 127=>105 | 119=>116 | 46=>73 | 139=>119 | 138=>118 | 164=>112 | 51=>99 | 80=>77 | n=>n,fun | 3=>1 | 4=>2 | n=>n⟩
theorem Tryd.laysMap:Go.Proofs.Lays.n230 Tryd.prog Tryd.laysMap_ren:={
  mixed:=by kernel_rfl
  f118:=Tryd.func100.trans (congrArg some (by kernel_rfl))
  f165:=Tryd.func82.trans (congrArg some (by kernel_rfl))
  f166:=Tryd.func83.trans (congrArg some (by kernel_rfl))
  f167:=Tryd.func103.trans (congrArg some (by kernel_rfl))
  f168:=Tryd.func101.trans (congrArg some (by kernel_rfl))
  f169:=Tryd.func85.trans (congrArg some (by kernel_rfl))
  f197:=Tryd.func99.trans (congrArg some (by kernel_rfl))
  f230:=Tryd.func86.trans (congrArg some (by kernel_rfl))
  f240:=Tryd.func97.trans (congrArg some (by kernel_rfl))
  f241:=Tryd.func98.trans (congrArg some (by kernel_rfl))
  f242:=Tryd.func110.trans (congrArg some (by kernel_rfl))
  f260:=Tryd.func109.trans (congrArg some (by kernel_rfl))
  f270:=Tryd.func102.trans (congrArg some (by kernel_rfl))
  f276:=Tryd.func107.trans (congrArg some (by kernel_rfl))
  f277:=Tryd.func108.trans (congrArg some (by kernel_rfl))
  f278:=Tryd.func111.trans (congrArg some (by kernel_rfl))
  t0:=Tryd.underlying0
  a0:=Tryd.isAgg0
  z0:=Tryd.sizeOf0
  v0:=Tryd.zeroValue0
  t3:=Tryd.underlying3
  a3:=Tryd.isAgg3
  z3:=Tryd.sizeOf3
  v3:=Tryd.zeroValue3
  t4:=Tryd.underlying4
  a4:=Tryd.isAgg4
  z4:=Tryd.sizeOf4
  v4:=Tryd.zeroValue4
  t5:=Tryd.underlying5
  a5:=Tryd.isAgg5
  z5:=Tryd.sizeOf5
  v5:=Tryd.zeroValue5
  t9:=Tryd.underlying9
  a9:=Tryd.isAgg9
  z9:=Tryd.sizeOf9
  v9:=Tryd.zeroValue9
  t20:=Tryd.underlying20
  a20:=Tryd.isAgg20
  z20:=Tryd.sizeOf20
  v20:=Tryd.zeroValue20
  t21:=Tryd.underlying21
  a21:=Tryd.isAgg21
  z21:=Tryd.sizeOf21
  v21:=Tryd.zeroValue21
  t37:=Tryd.underlying84
  a37:=Tryd.isAgg84
  z37:=Tryd.sizeOf84
  v37:=Tryd.zeroValue84
  t46:=Tryd.underlying73
  a46:=Tryd.isAgg73
  z46:=Tryd.sizeOf73
  v46:=Tryd.zeroValue73
  t51:=Tryd.underlying99
  a51:=Tryd.isAgg99
  z51:=Tryd.sizeOf99
  v51:=Tryd.zeroValue99
  t70:=Tryd.underlying88
  a70:=Tryd.isAgg88
  z70:=Tryd.sizeOf88
  v70:=Tryd.zeroValue88
  t72:=Tryd.underlying90
  a72:=Tryd.isAgg90
  z72:=Tryd.sizeOf90
  v72:=Tryd.zeroValue90
  t75:=Tryd.underlying93
  a75:=Tryd.isAgg93
  z75:=Tryd.sizeOf93
  v75:=Tryd.zeroValue93
  t76:=Tryd.underlying94
  a76:=Tryd.isAgg94
  z76:=Tryd.sizeOf94
  v76:=Tryd.zeroValue94
  t105:=Tryd.underlying106
  a105:=Tryd.isAgg106
  z105:=Tryd.sizeOf106
  v105:=Tryd.zeroValue106
  t107:=Tryd.underlying56
  a107:=Tryd.isAgg56
  z107:=Tryd.sizeOf56
  v107:=Tryd.zeroValue56
  t119:=Tryd.underlying116
  a119:=Tryd.isAgg116
  z119:=Tryd.sizeOf116
  t127:=Tryd.underlying105
  a127:=Tryd.isAgg105
  z127:=Tryd.sizeOf105
  v127:=Tryd.zeroValue105
  t138:=Tryd.underlying118
  a138:=Tryd.isAgg118
  z138:=Tryd.sizeOf118
  v138:=Tryd.zeroValue118
  t139:=Tryd.underlying119
  a139:=Tryd.isAgg119
  z139:=Tryd.sizeOf119
  v139:=Tryd.zeroValue119
  t164:=Tryd.underlying112
  a164:=Tryd.isAgg112
  z164:=Tryd.sizeOf112
  v164:=Tryd.zeroValue112
  g3:=by kernel_rfl
  g4:=by kernel_rfl }
theorem Tryd.extraR:Builder.Extra Tryd.prog Tryd.laysRepeat_ren:={
  sizeBuilder:=by kernel_rfl
  liesBuilder:=by kernel_rfl
  t5:=Tryd.laysRepeat.t5
  a5:=Tryd.laysRepeat.a5
  z5:=Tryd.laysRepeat.z5
  v5:=Tryd.laysRepeat.v5
  infoByte:=by kernel_rfl
  cellsByte:=by kernel_rfl
  sizeByte:=by kernel_rfl
  neB5:=by decide }
theorem Tryd.extraM:Builder.Extra Tryd.prog Tryd.laysMap_ren:={
  sizeBuilder:=by kernel_rfl
  liesBuilder:=by kernel_rfl
  t5:=Tryd.laysMap.t5
  a5:=Tryd.laysMap.a5
  z5:=Tryd.laysMap.z5
  v5:=Tryd.laysMap.v5
  infoByte:=by kernel_rfl
  cellsByte:=by kernel_rfl
  sizeByte:=by kernel_rfl
  neB5:=by decide }
theorem Tryd.renRepeat:Tryd.laysRepeat_ren.f 105=62:=by kernel_rfl
theorem Tryd.renMap:Tryd.laysMap_ren.f 230=86:=by kernel_rfl
theorem Tryd.renG3:Tryd.laysMap_ren.g 3=1:=by kernel_rfl
theorem Tryd.renG4:Tryd.laysMap_ren.g 4=2:=by kernel_rfl
namespace Vm
open Go
set_option linter.unusedVariables false
def gRepeat:List V→Option V
  | [.str s,.int .i64 c]=>if 0≤c∧c.toNat≤9223372036854775807∧s.size*c.toNat≤140737488355328 then some (.str ⟨(Lib.repeatL s.data.toList c.toNat).toArray⟩) else none
  | _=>none
def pRepeat:PrimF:=flatP (fun _=>true) gRepeat
theorem pok_Repeat:PrimOk Tryd.prog 62 pRepeat:=by
  refine primOk_flat (by kernel_rfl) fun args H v ρ w xs hf hg hc hH hG hx => ?_
  unfold gRepeat at hg
  split at hg
  case h_2=>cases hg
  rename_i s c
  split at hg
  case isFalse=>cases hg
  rename_i hcond
  obtain ⟨h0,h1,h2⟩:=hcond
  cases hg
  have e1:=hx.1
  have e2:=hx.2 0 (by simp)
  have e3:=hx.2 1 (by simp)
  obtain ⟨xs⟩:=xs
  match xs,e1,e2,e3 with
  | [a,b],_,e2,e3 =>
    simp at e2 e3
    cases e2;cases e3
    obtain ⟨n,rfl⟩:∃n:Nat,c=n:=⟨c.toNat,by omega⟩
    have h:=Any.strings_Repeat Tryd.laysRepeat Tryd.extraR s n w (by simpa using h1) (by simpa using h2)
    rw [Tryd.renRepeat] at h
    exact h.mono fun e w' hh=>⟨_,hh.1,.str _,hh.2⟩
def oppF (x:Int):Int:=if x=97 then 65 else if x=65 then 97 else if x=98 then 66 else 98
def neiF (x:Int):Int:=if x=97 then 98 else if x=65 then 66 else if x=98 then 97 else 65
theorem opp_calls (x:Int)(w:World):Calls Tryd.prog 55 #[.int .i32 x] w fun e w'=>e=.returned (.int .i32 (oppF x))∧w'=w:=by
  unfold oppF
  by_cases h1:x=97
  · subst h1
    go_enter Tryd.func55,Tryd.ntmps55
    go_wp2
    go_ret
    exact ⟨rfl,rfl⟩
  by_cases h2:x=65
  · subst h2
    go_enter Tryd.func55,Tryd.ntmps55
    go_wp2
    go_ret
    exact ⟨rfl,rfl⟩
  by_cases h3:x=98
  · subst h3
    go_enter Tryd.func55,Tryd.ntmps55
    go_wp2
    go_ret
    exact ⟨rfl,rfl⟩
  simp only [h1,h2,h3,if_false]
  go_enter Tryd.func55,Tryd.ntmps55
  go_wp2
  go_ret
  exact ⟨rfl,rfl⟩
theorem nei_calls (x:Int)(w:World):Calls Tryd.prog 87 #[.int .i32 x] w fun e w'=>e=.returned (.int .i32 (neiF x))∧w'=w:=by
  unfold neiF
  by_cases h1:x=97
  · subst h1
    go_enter Tryd.func87,Tryd.ntmps87
    go_wp2
    go_ret
    exact ⟨rfl,rfl⟩
  by_cases h2:x=65
  · subst h2
    go_enter Tryd.func87,Tryd.ntmps87
    go_wp2
    go_ret
    exact ⟨rfl,rfl⟩
  by_cases h3:x=98
  · subst h3
    go_enter Tryd.func87,Tryd.ntmps87
    go_wp2
    go_ret
    exact ⟨rfl,rfl⟩
  simp only [h1,h2,h3,if_false]
  go_enter Tryd.func87,Tryd.ntmps87
  go_wp2
  go_ret
  exact ⟨rfl,rfl⟩
def u8s:List V→List Nat→Bool
  | [],[]=>true
  | .int .u8 n :: vs,k :: ks=>decide (n=(k:Int))&&u8s vs ks
  | _,_=>false
def rowIs (H:Hp)(b:Nat)(t:List Nat):Bool:=match H[b]? with
  | some (.row cs _)=>u8s cs t
  | _=>false
def firstL:List Nat:=(List.range 256).map Lib.firstT
def accL:List Nat:=(List.range 32).map fun i=>if i % 2=0 then Lib.accLo (i / 2) else Lib.accHi (i / 2)
def chkU8 (H:Hp):Bool:=rowIs H 0 firstL&&rowIs H 1 accL
theorem u8s_at:∀{vs:List V} {t:List Nat},u8s vs t=true→∀i,i<t.length→i<vs.length∧vs.getD i dv=.int .u8 ((t.getD i 0:Nat):Int)
  | [],[],_,i,hi=>by simp at hi
  | [],_ :: _,h,_,_=>by simp [u8s] at h
  | v :: vs,[],h,i,hi=>by simp at hi
  | v :: vs,k :: ks,h,i,hi=>by
    unfold u8s at h
    split at h
    · rename_i e1 e2;cases e1
    · rename_i n vs' k' ks' e1 e2
      cases e1;cases e2
      simp only [Bool.and_eq_true,decide_eq_true_eq] at h
      obtain ⟨rfl,h⟩:=h
      cases i with
      | zero=>exact ⟨by simp,by simp⟩
      | succ i =>
        obtain ⟨a,b⟩:=u8s_at h i (by simpa using hi)
        exact ⟨by simpa using a,by simpa using b⟩
    · cases h
theorem row_cells {ρ:Loc}{H:Hp}{w:World}(hH:RelH ρ H w){b g c:Nat}{t:List Nat}(hr:rowIs H b t=true)(hρ:ρ b=some (g,0,c))(i:Nat)(hi:i<t.length):w.cell? ⟨g,i,none⟩=some (.int .u8 ((t.getD i 0:Nat):Int)):=by
  unfold rowIs at hr
  split at hr
  case h_2=>cases hr
  rename_i cs own hb
  obtain ⟨C,el,fz,g1,g2,g3,g4,g5⟩:=hH.row b g 0 c cs own hρ hb
  obtain ⟨h1,h2⟩:=u8s_at hr i hi
  have h3:=(g5 i h1).1
  rw [h2,Nat.zero_add] at h3
  have hlt:i<C.size:=by omega
  have e:C[i]? = some (C.getD i ux):=by rw [Array.getD_eq_getD_getElem?,Array.getElem?_eq_getElem hlt];rfl
  generalize hy:C.getD i ux=y at h3 e
  cases h3
  simp [World.cell?,g1,e]
theorem gl0:∃cs,glMap[0]? = some (some 1,cs):=⟨_,rfl⟩
theorem gl1:∃cs,glMap[1]? = some (some 2,cs):=⟨_,rfl⟩
set_option maxRecDepth 100000 in
theorem tabs_of {ρ:Loc}{H:Hp}{w:World}(hH:RelH ρ H w)(hG:GRel ρ)(hc:chkU8 H=true):Lib.Utf8Tabs 1 2 w:=by
  simp only [chkU8,Bool.and_eq_true] at hc
  obtain ⟨cs0,e0⟩:=gl0
  obtain ⟨cs1,e1⟩:=gl1
  have r0:=row_cells hH hc.1 (hG 0 1 cs0 e0)
  have r1:=row_cells hH hc.2 (hG 1 2 cs1 e1)
  refine ⟨fun c h => ?_,fun i h=>⟨?_,?_⟩⟩
  · have:=r0 c (by simp [firstL];exact h)
    rw [this];simp [firstL,h]
  · have:=r1 (2*i) (by simp [accL];omega)
    rw [this]
    have e:2*i % 2=0:=by omega
    have e':2*i / 2=i:=by omega
    simp [accL,show 2*i<32 by omega,e,e']
  · have:=r1 (2*i+1) (by simp [accL];omega)
    rw [this]
    have e:¬(2*i+1) % 2=0:=by omega
    have e':(2*i+1) / 2=i:=by omega
    simp [accL,show 2*i+1<32 by omega,e,e']
def gMap:List V→Option V
  | [.func (.func f) [] [],.str s]=>if s.size<35184372088832 then
      if f=55 then some (.str ⟨(Lib.mapD oppF s.data.toList).toArray⟩)
      else if f=87 then some (.str ⟨(Lib.mapD neiF s.data.toList).toArray⟩) else none
    else none
  | _=>none
def pMap:PrimF:=flatP chkU8 gMap
theorem oppF_range (x:Nat):0≤oppF x∧oppF x≤2147483647:=by
  unfold oppF;repeat' split
  all_goals omega
theorem neiF_range (x:Nat):0≤neiF x∧neiF x≤2147483647:=by
  unfold neiF;repeat' split
  all_goals omega
theorem pok_Map:PrimOk Tryd.prog 86 pMap:=by
  refine primOk_flat (by kernel_rfl) fun args H v ρ w xs hf hg hc hH hG hx => ?_
  have hT:=tabs_of hH hG hc
  unfold gMap at hg
  split at hg
  case h_2=>cases hg
  rename_i f s
  split at hg
  case isFalse=>cases hg
  rename_i hsz
  have e1:=hx.1
  have e2:=hx.2 0 (by simp)
  have e3:=hx.2 1 (by simp)
  obtain ⟨xs⟩:=xs
  match xs,e1,e2,e3 with
  | [a, b],_,e2,e3 =>
    simp at e2 e3
    cases e3
    cases e2 with
    | @func _ _ fs' _ cs' h1 _ h3 _ =>
      have f0:fs'=#[]:=Array.eq_empty_of_size_eq_zero (by simpa using h1.symm)
      have c0:cs'=#[]:=Array.eq_empty_of_size_eq_zero (by simpa using h3.symm)
      subst f0 c0
      split at hg
      · rename_i hfe
        subst hfe
        cases hg
        have h:=Any.strings_Map_runes Tryd.laysMap Tryd.extraM 55 #[] (fun _ _=>by kernel_rfl) oppF s w hsz
          (fun W x _ _=>(opp_calls x W).mono fun e w' hh=>⟨hh.1,0,hh.2⟩) (fun x _=>oppF_range x) (by rw [Tryd.renG3,Tryd.renG4];exact hT)
        rw [Tryd.renMap] at h
        exact h.mono fun e w' hh=>⟨_,hh.1,.str _,hh.2⟩
      · split at hg
        case isFalse=>cases hg
        rename_i hfe
        subst hfe
        cases hg
        have h:=Any.strings_Map_runes Tryd.laysMap Tryd.extraM 87 #[] (fun _ _=>by kernel_rfl) neiF s w hsz
          (fun W x _ _=>(nei_calls x W).mono fun e w' hh=>⟨hh.1,0,hh.2⟩) (fun x _=>neiF_range x) (by rw [Tryd.renG3,Tryd.renG4];exact hT)
        rw [Tryd.renMap] at h
        exact h.mono fun e w' hh=>⟨_,hh.1,.str _,hh.2⟩
def vf62:VFn:=⟨2,[],.prim pRepeat⟩
def vf86:VFn:=⟨2,[],.prim pMap⟩
theorem pok62:PrimOk Tryd.prog 62 pRepeat:=pok_Repeat
theorem pok86:PrimOk Tryd.prog 86 pMap:=pok_Map
end Vm
end Go.Proofs.YtalejadhccgckaaDoor

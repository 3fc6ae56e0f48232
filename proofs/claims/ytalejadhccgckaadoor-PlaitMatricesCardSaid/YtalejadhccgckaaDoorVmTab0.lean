/- The functions of this seat as slim code: what 'slimFn' makes of each, checked by the kernel. -/
import Derived.Test.YtalejadhccgckaaDoorVmRules
import Derived.Test.YtalejadhccgckaaDoorChecked
import Derived.KernelRfl
import Derived.Test.YtalejadhccgckaaDoorVmPrim
namespace Go.Proofs.YtalejadhccgckaaDoor.Vm.T0
open Go
set_option maxRecDepth 100000
def bsV (n:Nat):List V:=List.replicate n (.bool false)
abbrev oM (d x:Nat):VOper:=⟨some d,.move (.t x),none,[]⟩
abbrev oC (d:Nat)(n:Int):VOper:=⟨some d,.move (.c (.int .i64 n)),none,[]⟩
abbrev oL (d x:Nat):VOper:=⟨some d,.load none (.t x),none,[]⟩
abbrev oK (d k x:Nat):VOper:=⟨some d,.load (some k) (.t x),none,[]⟩
abbrev oF (d o x:Nat):VOper:=⟨some d,.faddr o (.t x),none,[]⟩
abbrev oI (d k x i:Nat):VOper:=⟨some d,.iaddrS k (.t x) (.t i),none,[]⟩
abbrev oS (d x:Nat):VOper:=⟨some d,.lenS (.t x),none,[]⟩
abbrev oW (k a x:Nat):VOper:=⟨none,.store k (.t a) (.t x),none,[]⟩
abbrev oP (d:Nat)(op:VOp):VOper:=⟨some d,op,none,[]⟩
abbrev oG (d:Nat)(op:VOp)(g:Nat)(b:Bool):VOper:=⟨some d,op,some (g,b),[]⟩
def vf55:VFn:=⟨1,[(.tmp 2)],(.seq (.reg [oP 2 (.move (.c (.int .i32 0)))]) (.seq (.seq (.reg [oM 3 0]) (.block 0 (.seq (.reg [oP 5 (.bin .eql (.t 3) (.c (.int .i32 97))),oM 4 5]) (.cond (.t 4) (.seq (.reg [oP 2 (.move (.c (.int .i32 65)))]) .ret) (.seq (.reg [oP 7 (.bin .eql (.t 3) (.c (.int .i32 65))),oM 6 7]) (.cond (.t 6) (.seq (.reg [oP 2 (.move (.c (.int .i32 97)))]) .ret) (.seq (.reg [oP 9 (.bin .eql (.t 3) (.c (.int .i32 98))),oM 8 9]) (.cond (.t 8) (.seq (.reg [oP 2 (.move (.c (.int .i32 66)))]) .ret) .skip)))))))) (.seq (.reg [oP 2 (.move (.c (.int .i32 98)))]) .ret)))⟩
def vf61:VFn:=⟨1,[(.tmp 2)],(.seq (.reg [⟨(some 2),(.move (.c (.str ⟨[].toArray⟩))),none,[]⟩]) (.seq (.reg [oM 4 0,oP 5 (.call 65 [(.t 4)]),oP 6 (.bytes (.t 5)),oM 3 6]) (.seq (.reg [oM 7 3,oP 8 (.call 79 [(.t 7)])]) (.seq (.reg [oM 9 3,oP 10 (.x .strB [(.t 9)]),oM 2 10]) .ret))))⟩
def vf65:VFn:=⟨1,[(.tmp 2)],(.seq (.reg [⟨(some 2),(.move (.c (.str ⟨[].toArray⟩))),none,[]⟩]) (.seq (.reg [oM 3 0,oP 4 (.call 86 [(.c (.func (.func 55) [] [])),(.t 3)]),oM 2 4]) .ret))⟩
def vf66:VFn:=⟨1,[(.tmp 2)],(.seq (.reg [⟨(some 2),(.move (.c (.str ⟨[].toArray⟩))),none,[]⟩]) (.seq (.reg [oM 3 0,oP 4 (.call 86 [(.c (.func (.func 87) [] [])),(.t 3)]),oM 2 4]) .ret))⟩
def vf75:VFn:=⟨1,[(.tmp 2)],(.seq (.reg [⟨(some 2),(.move (.c (.str ⟨[].toArray⟩))),none,[]⟩]) (.seq (.reg [⟨(some 3),(.move (.c (.str ⟨[].toArray⟩))),none,[]⟩]) (.seq (.block 0 (.loop (.seq (.seq (.draw [oM 5 0,oP 6 (.nilc (.t 5)),oF 7 1 6,oL 8 7,oM 9 0,oP 10 (.nilc (.t 9)),oF 11 0 10,oL 12 11,oP 13 (.lenT (.t 12)),oP 14 (.bin .lss (.t 8) (.t 13)),oM 15 14,oG 16 (.move (.t 0)) 15 true,oG 17 (.nilc (.t 16)) 15 true,oG 18 (.faddr 0 (.t 17)) 15 true,oG 19 (.load none (.t 18)) 15 true,oG 20 (.move (.t 0)) 15 true,oG 21 (.nilc (.t 20)) 15 true,oG 22 (.faddr 1 (.t 21)) 15 true,oG 23 (.load none (.t 22)) 15 true,oG 24 (.idxT (.t 19) (.t 23)) 15 true,oG 25 (.bin .neq (.t 24) (.c (.int .u8 41))) 15 true,oP 26 (.pick (.t 15) (.t 25) (.c (.bool false)))] []) (.cond (.t 26) .skip (.exit 0))) (.block 1 (.seq (.reg [oM 27 0,oP 28 (.call 89 [(.t 27)]),oM 4 28]) (.reg [oM 29 3,oM 30 4,oP 31 (.bin .add (.t 29) (.t 30)),oP 32 (.call 90 [(.t 31)]),oM 3 32])))))) (.seq (.reg [oM 33 3,oM 2 33]) .ret))))⟩
def vf79:VFn:=⟨1,[],(.seq (.reg [oM 4 0,oS 5 4,oP 6 (.bin .sub (.t 5) (.c (.int .i64 1))),oC 2 0,oM 3 6]) (.block 0 (.loop (.seq (.seq (.reg [oM 7 2,oM 8 3,oP 9 (.bin .lss (.t 7) (.t 8))]) (.cond (.t 9) .skip (.exit 0))) (.seq (.block 1 (.drawS [oM 14 0,oM 15 2,oM 16 0,oM 17 3,oM 18 0,oM 19 3,oI 20 1 18 19,oL 21 20,oM 22 0,oM 23 2,oI 24 1 22 23,oL 25 24,oI 26 1 14 15,oW 1 26 21,oI 27 1 16 17,oW 1 27 25] [])) (.reg [oM 10 2,oP 11 (.bin .add (.t 10) (.c (.int .i64 1))),oM 12 3,oP 13 (.bin .sub (.t 12) (.c (.int .i64 1))),oM 2 11,oM 3 13]))))))⟩
def vf87:VFn:=⟨1,[(.tmp 2)],(.seq (.reg [oP 2 (.move (.c (.int .i32 0)))]) (.seq (.seq (.reg [oM 3 0]) (.block 0 (.seq (.reg [oP 5 (.bin .eql (.t 3) (.c (.int .i32 97))),oM 4 5]) (.cond (.t 4) (.seq (.reg [oP 2 (.move (.c (.int .i32 98)))]) .ret) (.seq (.reg [oP 7 (.bin .eql (.t 3) (.c (.int .i32 65))),oM 6 7]) (.cond (.t 6) (.seq (.reg [oP 2 (.move (.c (.int .i32 66)))]) .ret) (.seq (.reg [oP 9 (.bin .eql (.t 3) (.c (.int .i32 98))),oM 8 9]) (.cond (.t 8) (.seq (.reg [oP 2 (.move (.c (.int .i32 97)))]) .ret) .skip)))))))) (.seq (.reg [oP 2 (.move (.c (.int .i32 65)))]) .ret)))⟩
def vf89:VFn:=⟨1,[(.tmp 2)],(.seq (.reg [⟨(some 2),(.move (.c (.str ⟨[].toArray⟩))),none,[]⟩]) (.seq (.seq (.reg [oM 4 0,oP 5 (.call 104 [(.t 4)]),oM 3 5]) (.seq (.reg [oM 6 3]) (.block 0 (.seq (.seq (.reg [oP 8 (.bin .eql (.t 6) (.c (.int .u8 97))),oM 7 8]) (.cond (.t 7) .skip (.seq (.reg [oP 9 (.bin .eql (.t 6) (.c (.int .u8 65))),oM 7 9]) (.cond (.t 7) .skip (.seq (.reg [oP 10 (.bin .eql (.t 6) (.c (.int .u8 98))),oM 7 10]) (.cond (.t 7) .skip (.reg [oP 11 (.bin .eql (.t 6) (.c (.int .u8 66))),oM 7 11]))))))) (.cond (.t 7) (.seq (.reg [oM 12 3,oP 13 (.conv .i32 (.t 12)),oP 14 (.x .strR [(.t 13)]),oM 2 14]) .ret) (.seq (.reg [oP 16 (.bin .eql (.t 6) (.c (.int .u8 33))),oM 15 16]) (.cond (.t 15) (.seq (.reg [oM 17 0,oP 18 (.call 89 [(.t 17)]),oP 19 (.call 61 [(.t 18)]),oM 2 19]) .ret) (.seq (.reg [oP 21 (.bin .eql (.t 6) (.c (.int .u8 126))),oM 20 21]) (.cond (.t 20) (.seq (.reg [oM 22 0,oP 23 (.call 89 [(.t 22)]),oP 24 (.call 65 [(.t 23)]),oM 2 24]) .ret) (.seq (.reg [oP 26 (.bin .eql (.t 6) (.c (.int .u8 37))),oM 25 26]) (.cond (.t 25) (.seq (.reg [oM 27 0,oP 28 (.call 89 [(.t 27)]),oP 29 (.call 66 [(.t 28)]),oM 2 29]) .ret) (.seq (.reg [oP 31 (.bin .eql (.t 6) (.c (.int .u8 40))),oM 30 31]) (.cond (.t 30) (.seq (.reg [oM 32 0,oP 33 (.call 105 [(.t 32)]),oM 2 33]) .ret) .skip))))))))))))) (.reg [oP 34 (.build [] []),oP 35 (.x (.mkI 79) [(.t 34)]),⟨none,(.x .pan [(.t 35)]),none,[]⟩])))⟩
def vf90:VFn:=⟨1,[(.tmp 2)],(.seq (.reg [⟨(some 2),(.move (.c (.str ⟨[].toArray⟩))),none,[]⟩]) (.seq (.reg [oM 3 0,oM 4 0,oP 5 (.lenT (.t 4)),oP 6 (.min2 (.t 5) (.c (.int .i64 61))),oP 7 (.slT (.t 3) none (some (.t 6))),oM 2 7]) .ret))⟩
def vf104:VFn:=⟨1,[(.tmp 2)],(.seq (.reg [oP 2 (.move (.c (.int .u8 0)))]) (.seq (.seq (.draw [oM 3 0,oP 4 (.nilc (.t 3)),oF 5 1 4,oL 6 5,oM 7 0,oP 8 (.nilc (.t 7)),oF 9 0 8,oL 10 9,oP 11 (.lenT (.t 10)),oP 12 (.bin .eql (.t 6) (.t 11))] []) (.cond (.t 12) (.reg [oP 13 (.build [] []),oP 14 (.x (.mkI 79) [(.t 13)]),⟨none,(.x .pan [(.t 14)]),none,[]⟩]) .skip)) (.seq (.reg [oM 15 0,oP 16 (.nilc (.t 15)),oF 17 1 16,oL 18 17,oP 19 (.bin .add (.t 18) (.c (.int .i64 1))),oP 20 (.nilc (.t 15)),oF 21 1 20,oW 1 21 19]) (.seq (.draw [oM 22 0,oP 23 (.nilc (.t 22)),oF 24 0 23,oL 25 24,oM 26 0,oP 27 (.nilc (.t 26)),oF 28 1 27,oL 29 28,oP 30 (.bin .sub (.t 29) (.c (.int .i64 1))),oP 31 (.idxT (.t 25) (.t 30)),oM 2 31] []) .ret))))⟩
def vf105:VFn:=⟨1,[(.tmp 2)],(.seq (.reg [⟨(some 2),(.move (.c (.str ⟨[].toArray⟩))),none,[]⟩]) (.seq (.reg [oM 5 0,oP 6 (.nilc (.t 5)),oF 7 2 6,oL 8 7,oP 9 (.bin .add (.t 8) (.c (.int .i64 1))),oP 10 (.nilc (.t 5)),oF 11 2 10,oW 1 11 9]) (.seq (.seq (.reg [oM 12 0,oP 13 (.nilc (.t 12)),oF 14 2 13,oL 15 14,oP 16 (.bin .gtr (.t 15) (.c (.int .i64 8)))]) (.cond (.t 16) (.reg [oP 17 (.build [] []),oP 18 (.x (.mkI 79) [(.t 17)]),⟨none,(.x .pan [(.t 18)]),none,[]⟩]) .skip)) (.seq (.reg [oM 19 0,oP 20 (.call 75 [(.t 19)]),oM 3 20]) (.seq (.reg [oM 21 0,oP 22 (.call 104 [(.t 21)])]) (.seq (.reg [oM 23 0,oP 24 (.nilc (.t 23)),oF 25 2 24,oL 26 25,oP 27 (.bin .sub (.t 26) (.c (.int .i64 1))),oP 28 (.nilc (.t 23)),oF 29 2 28,oW 1 29 27]) (.seq (.reg [oC 4 1]) (.seq (.seq (.draw [oM 30 0,oP 31 (.nilc (.t 30)),oF 32 1 31,oL 33 32,oM 34 0,oP 35 (.nilc (.t 34)),oF 36 0 35,oL 37 36,oP 38 (.lenT (.t 37)),oP 39 (.bin .lss (.t 33) (.t 38)),oM 40 39,oG 41 (.move (.t 0)) 40 true,oG 42 (.nilc (.t 41)) 40 true,oG 43 (.faddr 0 (.t 42)) 40 true,oG 44 (.load none (.t 43)) 40 true,oG 45 (.move (.t 0)) 40 true,oG 46 (.nilc (.t 45)) 40 true,oG 47 (.faddr 1 (.t 46)) 40 true,oG 48 (.load none (.t 47)) 40 true,oG 49 (.idxT (.t 44) (.t 48)) 40 true,oG 50 (.bin .geq (.t 49) (.c (.int .u8 48))) 40 true,oP 51 (.pick (.t 40) (.t 50) (.c (.bool false))),oM 52 51,oG 53 (.move (.t 0)) 52 true,oG 54 (.nilc (.t 53)) 52 true,oG 55 (.faddr 0 (.t 54)) 52 true,oG 56 (.load none (.t 55)) 52 true,oG 57 (.move (.t 0)) 52 true,oG 58 (.nilc (.t 57)) 52 true,oG 59 (.faddr 1 (.t 58)) 52 true,oG 60 (.load none (.t 59)) 52 true,oG 61 (.idxT (.t 56) (.t 60)) 52 true,oG 62 (.bin .leq (.t 61) (.c (.int .u8 57))) 52 true,oP 63 (.pick (.t 52) (.t 62) (.c (.bool false)))] []) (.cond (.t 63) (.reg [oM 64 0,oP 65 (.call 104 [(.t 64)]),oP 66 (.bin .sub (.t 65) (.c (.int .u8 48))),oP 67 (.conv .i64 (.t 66)),oM 4 67]) .skip)) (.seq (.reg [oM 68 3,oM 69 4,oP 70 (.call 62 [(.t 68),(.t 69)]),oP 71 (.call 90 [(.t 70)]),oM 2 71]) .ret)))))))))⟩
theorem slim55:slimFn Tryd.prog [] Tryd.f55=some vf55:=by kernel_rfl
theorem slim61:slimFn Tryd.prog [] Tryd.f61=some vf61:=by kernel_rfl
theorem slim65:slimFn Tryd.prog [] Tryd.f65=some vf65:=by kernel_rfl
theorem slim66:slimFn Tryd.prog [] Tryd.f66=some vf66:=by kernel_rfl
theorem slim75:slimFn Tryd.prog [] Tryd.f75=some vf75:=by kernel_rfl
theorem slim79:slimFn Tryd.prog [] Tryd.f79=some vf79:=by kernel_rfl
theorem slim87:slimFn Tryd.prog [] Tryd.f87=some vf87:=by kernel_rfl
theorem slim89:slimFn Tryd.prog [] Tryd.f89=some vf89:=by kernel_rfl
theorem slim90:slimFn Tryd.prog [] Tryd.f90=some vf90:=by kernel_rfl
theorem slim104:slimFn Tryd.prog [] Tryd.f104=some vf104:=by kernel_rfl
theorem slim105:slimFn Tryd.prog [] Tryd.f105=some vf105:=by kernel_rfl
def tbl55:Tbl:=tblAdd 55 vf55 (fun _=>none)
def tbl61:Tbl:=tblAdd 61 vf61 tbl55
def tbl62:Tbl:=tblAdd 62 vf62 tbl61
def tbl65:Tbl:=tblAdd 65 vf65 tbl62
def tbl66:Tbl:=tblAdd 66 vf66 tbl65
def tbl75:Tbl:=tblAdd 75 vf75 tbl66
def tbl79:Tbl:=tblAdd 79 vf79 tbl75
def tbl86:Tbl:=tblAdd 86 vf86 tbl79
def tbl87:Tbl:=tblAdd 87 vf87 tbl86
def tbl89:Tbl:=tblAdd 89 vf89 tbl87
def tbl90:Tbl:=tblAdd 90 vf90 tbl89
def tbl104:Tbl:=tblAdd 104 vf104 tbl90
def tbl105:Tbl:=tblAdd 105 vf105 tbl104
def tbl:Tbl:=tbl105
theorem tbl_at55:tbl 55=some vf55:=by kernel_rfl
theorem tbl_at61:tbl 61=some vf61:=by kernel_rfl
theorem tbl_at62:tbl 62=some vf62:=by kernel_rfl
theorem tbl_at65:tbl 65=some vf65:=by kernel_rfl
theorem tbl_at66:tbl 66=some vf66:=by kernel_rfl
theorem tbl_at75:tbl 75=some vf75:=by kernel_rfl
theorem tbl_at79:tbl 79=some vf79:=by kernel_rfl
theorem tbl_at86:tbl 86=some vf86:=by kernel_rfl
theorem tbl_at87:tbl 87=some vf87:=by kernel_rfl
theorem tbl_at89:tbl 89=some vf89:=by kernel_rfl
theorem tbl_at90:tbl 90=some vf90:=by kernel_rfl
theorem tbl_at104:tbl 104=some vf104:=by kernel_rfl
theorem tbl_at105:tbl 105=some vf105:=by kernel_rfl
theorem tblOk55:TblOk Tryd.prog tbl55:=TblOk.none.add [] Tryd.func55 slim55 (by decide) (.inl (by kernel_rfl))
theorem tblOk61:TblOk Tryd.prog tbl61:=tblOk55.add [] Tryd.func61 slim61 (by decide) (.inl (by kernel_rfl))
theorem tblOk62:TblOk Tryd.prog tbl62:=tblOk61.addP (by decide) pok62
theorem tblOk65:TblOk Tryd.prog tbl65:=tblOk62.add [] Tryd.func65 slim65 (by decide) (.inl (by kernel_rfl))
theorem tblOk66:TblOk Tryd.prog tbl66:=tblOk65.add [] Tryd.func66 slim66 (by decide) (.inl (by kernel_rfl))
theorem tblOk75:TblOk Tryd.prog tbl75:=tblOk66.add [] Tryd.func75 slim75 (by decide) (.inl (by kernel_rfl))
theorem tblOk79:TblOk Tryd.prog tbl79:=tblOk75.add [] Tryd.func79 slim79 (by decide) (.inl (by kernel_rfl))
theorem tblOk86:TblOk Tryd.prog tbl86:=tblOk79.addP (by decide) pok86
theorem tblOk87:TblOk Tryd.prog tbl87:=tblOk86.add [] Tryd.func87 slim87 (by decide) (.inl (by kernel_rfl))
theorem tblOk89:TblOk Tryd.prog tbl89:=tblOk87.add [] Tryd.func89 slim89 (by decide) (.inl (by kernel_rfl))
theorem tblOk90:TblOk Tryd.prog tbl90:=tblOk89.add [] Tryd.func90 slim90 (by decide) (.inl (by kernel_rfl))
theorem tblOk104:TblOk Tryd.prog tbl104:=tblOk90.add [] Tryd.func104 slim104 (by decide) (.inl (by kernel_rfl))
theorem tblOk105:TblOk Tryd.prog tbl105:=tblOk104.add [] Tryd.func105 slim105 (by decide) (.inl (by kernel_rfl))
theorem tblOk:TblOk Tryd.prog tbl:=tblOk105
end Go.Proofs.YtalejadhccgckaaDoor.Vm.T0

/- strconv.Itoa over the machine. -/
import Derived.Test.YtgjlhdggllakbaaGreatDoorQCapTextsA
import Derived.Test.YtgjlhdggllakbaaGreatDoorVmFlat
import Derived.Test.YtgjlhdggllakbaaGreatDoorVmRec
import Derived.Test.YtgjlhdggllakbaaGreatDoorRows
import Derived.Test.YtgjlhdggllakbaaGreatDoorChecked
import Derived.Stop.LaidErr
import Derived.Lay
import Derived.KernelRfl
namespace Go.Proofs.YtgjlhdggllakbaaGreatDoor.Vm
open Go
set_option maxRecDepth 100000
set_option linter.unusedSimpArgs false
set_option linter.unusedVariables false
attribute [-simp] List.getD_eq_getElem?_getD
def lit36:ByteArray:=⟨#[48,49,50,51,52,53,54,55,56,57,97,98,99,100,101,102,103,104,105,106,107,108,109,110,111,112,113,114,115,116,117,118,119,120,121,122]⟩
def smL:ByteArray:=⟨#[48,48,48,49,48,50,48,51,48,52,48,53,48,54,48,55,48,56,48,57,49,48,49,49,49,50,49,51,49,52,49,53,49,54,49,55,49,56,49,57,50,48,50,49,50,50,50,51,50,52,50,53,50,54,50,55,50,56,50,57,51,48,51,49,51,50,51,51,51,52,51,53,51,54,51,55,51,56,51,57,52,48,52,49,52,50,52,51,52,52,52,53,52,54,52,55,52,56,52,57,53,48,53,49,53,50,53,51,53,52,53,53,53,54,53,55,53,56,53,57,54,48,54,49,54,50,54,51,54,52,54,53,54,54,54,55,54,56,54,57,55,48,55,49,55,50,55,51,55,52,55,53,55,54,55,55,55,56,55,57,56,48,56,49,56,50,56,51,56,52,56,53,56,54,56,55,56,56,56,57,57,48,57,49,57,50,57,51,57,52,57,53,57,54,57,55,57,56,57,57]⟩
theorem lit36_at {n:Nat}(h:n<10):vslT (.str lit36) (some (.int .i64 (n:Int))) (some (.int .i64 ((n:Int)+1)))=some (.str (bA (Lib.decDigits n))):=by
  rw [Lib.decDigits_one h]
  match n,h with
  | 0,_=>rfl
  | 1,_=>rfl
  | 2,_=>rfl
  | 3,_=>rfl
  | 4,_=>rfl
  | 5,_=>rfl
  | 6,_=>rfl
  | 7,_=>rfl
  | 8,_=>rfl
  | 9,_=>rfl
theorem smL_all:∀n,n<100→(smL.data.toList.take (2*n+2)).drop (2*n)=[UInt8.ofNat (48+n / 10),UInt8.ofNat (48+n % 10)]:=by decide +kernel
theorem smL_at {n:Nat}(h1:¬n<10)(h2:n<100){a b:Int}(ha:a=2*n)(hb:b=2*n+2):vslT (.str smL) (some (.int .i64 a)) (some (.int .i64 b))=some (.str (bA (Lib.decDigits n))):=by
  have e1:a=((2*n:Nat):Int):=by omega
  have e2:b=((2*n+2:Nat):Int):=by omega
  have hz:smL.size=200:=by decide +kernel
  rw [e1,e2,slT_bA (by omega) (by omega),smL_all n h2,Lib.decDigits_two h1 h2]
theorem small_t {H:Hp}{lim n:Nat}{K:V→Hp→Prop}(h2:n<100)(hK:K (.str (bA (Lib.decDigits n))) H):VCall tbl lim 102 [.int .i64 (n:Int)] H K:=by
  refine VCall_fn tbl_at102 rfl ?_
  by_cases h1:n<10
  · have h1':((n:Int)<10)=True:=eq_true (by omega)
    have:=lit36_at h1
    simp only [lit36] at this
    simp (disch:=omega) [vf102,h1',this,wrap_i64]
    exact hK
  · have h1':((n:Int)<10)=False:=eq_false (by omega)
    have:=smL_at h1 h2 (a:=(n:Int)*2) (b:=(n:Int)*2+2) (by omega) (by omega)
    simp only [smL] at this
    simp (disch:=omega) [vf102,h1',this,wrap_i64]
    exact hK
def len8:ByteArray:=⟨#[0,1,2,2,3,3,3,3,4,4,4,4,4,4,4,4,5,5,5,5,5,5,5,5,5,5,5,5,5,5,5,5,6,6,6,6,6,6,6,6,6,6,6,6,6,6,6,6,6,6,6,6,6,6,6,6,6,6,6,6,6,6,6,6,7,7,7,7,7,7,7,7,7,7,7,7,7,7,7,7,7,7,7,7,7,7,7,7,7,7,7,7,7,7,7,7,7,7,7,7,7,7,7,7,7,7,7,7,7,7,7,7,7,7,7,7,7,7,7,7,7,7,7,7,7,7,7,7,8,8,8,8,8,8,8,8,8,8,8,8,8,8,8,8,8,8,8,8,8,8,8,8,8,8,8,8,8,8,8,8,8,8,8,8,8,8,8,8,8,8,8,8,8,8,8,8,8,8,8,8,8,8,8,8,8,8,8,8,8,8,8,8,8,8,8,8,8,8,8,8,8,8,8,8,8,8,8,8,8,8,8,8,8,8,8,8,8,8,8,8,8,8,8,8,8,8,8,8,8,8,8,8,8,8,8,8,8,8,8,8,8,8,8,8,8,8,8,8,8,8,8,8,8,8,8,8]⟩
def bl8 (t:Nat):Nat:=if t<1 then 0 else if t<2 then 1 else if t<4 then 2 else if t<8 then 3 else if t<16 then 4 else if t<32 then 5 else if t<64 then 6 else if t<128 then 7 else 8
theorem len8_all:∀t,t<256→len8.data.toList.getD t 0=UInt8.ofNat (bl8 t):=by decide +kernel
theorem len8_at {t:Nat}(h:t<256):vidxT (.str len8) (.int .u8 (t:Int))=some (.int .u8 (bl8 t:Nat)):=by
  have hz:len8.size=256:=by decide +kernel
  simp only [vidxT,vint]
  rw [if_pos (by omega)]
  have e:=len8_all t h
  have hb:bl8 t<256:=by unfold bl8;(repeat' split)<;>omega
  have:len8.data.getD ((t:Int)).toNat 0=UInt8.ofNat (bl8 t):=by
    rw [Int.toNat_natCast,←e,Array.getD_eq_getD_getElem?,List.getD_eq_getElem?_getD,Array.getElem?_toList]
  rw [this]
  congr 2
  simp;omega
def blen (n:Nat):Nat:=if n<256 then bl8 n else if n<65536 then 8+bl8 (n / 256) else 16+bl8 (n / 65536)
theorem bl8_le (t:Nat):bl8 t≤8:=by unfold bl8;(repeat' split)<;>omega
theorem fdN {n m:Nat}:Int.fdiv (n:Int) (m:Int)=((n / m:Nat):Int):=by
  rw [Int.fdiv_eq_ediv_of_nonneg _ (by omega)];rfl
theorem shr_8 {n:Nat}:vbin .shr (.int .u64 (n:Int)) (.int .u64 8)=some (.int .u64 ((n / 256:Nat):Int)):=by
  show some (V.int .u64 (Int.fdiv (n:Int) ((256:Nat):Int)))=_
  rw [fdN]
theorem shr_16 {n:Nat}:vbin .shr (.int .u64 (n:Int)) (.int .u64 16)=some (.int .u64 ((n / 65536:Nat):Int)):=by
  show some (V.int .u64 (Int.fdiv (n:Int) ((65536:Nat):Int)))=_
  rw [fdN]
theorem shr_18 {n:Nat}:vbin .shr (.int .i64 (n:Int)) (.int .u64 18)=some (.int .i64 ((n / 262144:Nat):Int)):=by
  show some (V.int .i64 (Int.fdiv (n:Int) ((262144:Nat):Int)))=_
  rw [fdN]
theorem len64_t {H:Hp}{lim n:Nat}{K:V→Hp→Prop}(hn:n≤1000000)(hK:K (.int .i64 (blen n:Nat)) H):VCall tbl lim 93 [.int .u64 (n:Int)] H K:=by
  refine VCall_fn tbl_at93 rfl ?_
  have c1:((4294967296:Int)≤(n:Int))=False:=eq_false (by omega)
  have k8:vbin .shr (.int .u64 (n:Int)) (.int .u64 8)=some (.int .u64 ((n / 256:Nat):Int)):=shr_8
  have k16:vbin .shr (.int .u64 (n:Int)) (.int .u64 16)=some (.int .u64 ((n / 65536:Nat):Int)):=shr_16
  unfold blen at hK
  by_cases h1:n<256
  · have c2:((65536:Int)≤(n:Int))=False:=eq_false (by omega)
    have c3:((256:Int)≤(n:Int))=False:=eq_false (by omega)
    have w1:IntKind.wrap .u8 (n:Int)=(n:Int):=by simp [IntKind.wrap,IntKind.bits,IntKind.signed];omega
    have ht:=len8_at h1
    simp only [len8] at ht
    rw [if_pos h1] at hK
    have hb:=bl8_le n
    simp (disch:=omega) [vf93,c1,c2,c3,w1,ht,wrap_i64]
    exact hK
  rw [if_neg h1] at hK
  by_cases h2:n<65536
  · have c2:((65536:Int)≤(n:Int))=False:=eq_false (by omega)
    have c3:((256:Int)≤(n:Int))=True:=eq_true (by omega)
    rw [if_pos h2] at hK
    obtain ⟨m,hm⟩:∃m,m=n / 256:=⟨_,rfl⟩
    rw [←hm] at k8 hK
    have w1:IntKind.wrap .u8 (m:Int)=(m:Int):=by simp [IntKind.wrap,IntKind.bits,IntKind.signed];omega
    have ht:=len8_at (t:=m) (by omega)
    simp only [len8] at ht
    have hb:=bl8_le m
    simp (disch:=omega) [vf93,c1,c2,c3,w1,ht,k8,wrap_i64]
    have e:((8+bl8 m:Nat):Int)=8+(bl8 m:Int):=by omega
    rw [e] at hK
    exact hK
  · have c2:((65536:Int)≤(n:Int))=True:=eq_true (by omega)
    rw [if_neg h2] at hK
    obtain ⟨m,hm⟩:∃m,m=n / 65536:=⟨_,rfl⟩
    rw [←hm] at k16 hK
    have c3:((256:Int)≤(m:Int))=False:=eq_false (by omega)
    have w1:IntKind.wrap .u8 (m:Int)=(m:Int):=by simp [IntKind.wrap,IntKind.bits,IntKind.signed];omega
    have ht:=len8_at (t:=m) (by omega)
    simp only [len8] at ht
    have hb:=bl8_le m
    simp (disch:=omega) [vf93,c1,c2,c3,w1,ht,k16,wrap_i64]
    have e:((16+bl8 m:Nat):Int)=16+(bl8 m:Int):=by omega
    rw [e] at hK
    exact hK
def nD (n:Nat):Nat:=if n<1000 then 3 else if n<10000 then 4 else if n<100000 then 5 else if n<1000000 then 6 else 7
def lq (n:Nat):Nat:=if n<512 then 2 else if n<8192 then 3 else if n<65536 then 4 else if n<524288 then 5 else 6
theorem bl_lq {n:Nat}(h1:100≤n)(h2:n≤1000000):blen n*78913 / 262144=lq n∧blen n≤20:=by
  unfold blen lq bl8
  repeat' split
  all_goals omega
theorem log10_t {H:Hp}{lim n:Nat}{K:V→Hp→Prop}(h1:100≤n)(h2:n≤1000000)(hK:K (.int .i64 (lq n:Nat)) H):VCall tbl lim 122 [.int .i64 (blen n:Nat)] H K:=by
  refine VCall_fn tbl_at122 rfl ?_
  obtain ⟨a,b⟩:=bl_lq h1 h2
  have hs:=shr_18 (n:=blen n*78913)
  rw [a] at hs
  have e:((blen n*78913:Nat):Int)=(blen n:Int)*78913:=by omega
  rw [e] at hs
  simp (disch:=omega) [vf122,wrap_i64,hs]
  exact hK
theorem bool2_t {H:Hp}{lim:Nat}{b:Bool}{K:V→Hp→Prop}(hK:K (.int .i64 (if b then 1 else 0)) H):VCall tbl lim 123 [.bool b] H K:=by
  refine VCall_fn tbl_at123 rfl ?_
  cases b<;>simp [vf123] at hK ⊢<;>exact hK
theorem numDigits_t {H:Hp} {lim n:Nat} {K:V→Hp→Prop} (hg:HX glHp H) (h1:100≤n) (h2:n≤1000000) (hK:K (.int .i64 (nD n:Nat)) H):VCall tbl lim 103 [.int .u64 (n:Int)] H K:=by
  refine VCall_fn tbl_at103 rfl ?_
  simp [vf103]
  refine len64_t h2 ?_
  simp
  refine log10_t h1 h2 ?_
  simp
  obtain ⟨X,rfl⟩:=hg
  have d2:∀{L:Lo},vload none L (glHp++X) (.ptr 0 2)=some (.int .u64 100):=fun {L}=>rfl
  have d3:∀{L:Lo},vload none L (glHp++X) (.ptr 0 3)=some (.int .u64 1000):=fun {L}=>rfl
  have d4:∀{L:Lo},vload none L (glHp++X) (.ptr 0 4)=some (.int .u64 10000):=fun {L}=>rfl
  have d5:∀{L:Lo},vload none L (glHp++X) (.ptr 0 5)=some (.int .u64 100000):=fun {L}=>rfl
  have d6:∀{L:Lo},vload none L (glHp++X) (.ptr 0 6)=some (.int .u64 1000000):=fun {L}=>rfl
  have a2:viaddrA 20 1 (.ptr 0 0) (.int .i64 2)=some (.ptr 0 2):=rfl
  have a3:viaddrA 20 1 (.ptr 0 0) (.int .i64 3)=some (.ptr 0 3):=rfl
  have a4:viaddrA 20 1 (.ptr 0 0) (.int .i64 4)=some (.ptr 0 4):=rfl
  have a5:viaddrA 20 1 (.ptr 0 0) (.int .i64 5)=some (.ptr 0 5):=rfl
  have a6:viaddrA 20 1 (.ptr 0 0) (.int .i64 6)=some (.ptr 0 6):=rfl
  generalize glHp++X=H at *
  have fin : ∀ (q p:Nat),(q:Int)=(lq n:Nat)→viaddrA 20 1 (.ptr 0 0) (.int .i64 (q:Int))=some (.ptr 0 q)→(∀{L:Lo},vload none L H (.ptr 0 q)=some (.int .u64 (p:Int)))→q≤6→(nD n=if p≤n then q+1 else q)→wNext tbl lim [] H (pureV [] H (viaddrA 20 1 (V.ptr 0 0) (V.int IntKind.i64 ((lq n:Nat):Int)))) (opsK tbl lim (some 10)
      [oL 11 10,oP 12 (VOp.bin BinOp.geq (Opd.t 8) (Opd.t 11)),oP 13 (VOp.call 123 [Opd.t 12]),
        oP 14 (VOp.bin BinOp.add (Opd.t 7) (Opd.t 13)),oM 2 14]
      (seqQ (wCode tbl lim VCode.ret (fnQ [VRes.tmp 2] K)) (fnQ [VRes.tmp 2] K) VExit.normal)
      (upd
        (upd
          (upd
            (upd
              (upd
                (upd (upd (upd (fr0 [V.int IntKind.u64 ↑n]) 2 (V.int IntKind.i64 0)) 4 (V.int IntKind.u64 ↑n)) 5
                  (V.int IntKind.i64 ↑(blen n)))
                6 (V.int IntKind.i64 ↑(lq n)))
              3 (V.int IntKind.i64 ↑(lq n)))
            7 (V.int IntKind.i64 ↑(lq n)))
          8 (V.int IntKind.u64 ↑n))
        9 (V.int IntKind.i64 ↑(lq n)))):=by
    intro q p hq ha hd hq6 hnd
    rw [←hq]
    by_cases hp:p≤n
    · have hp':((p:Int)≤(n:Int))=True:=eq_true (by omega)
      simp [ha,hd,hp']
      refine bool2_t ?_
      rw [if_pos hp] at hnd
      simp (disch:=omega) [wrap_i64]
      rw [hnd] at hK
      have e:((q+1:Nat):Int)=(q:Int)+1:=by omega
      rw [e] at hK
      exact hK
    · have hp':((p:Int)≤(n:Int))=False:=eq_false (by omega)
      simp [ha,hd,hp']
      refine bool2_t ?_
      rw [if_neg hp] at hnd
      simp (disch:=omega) [wrap_i64]
      rw [hnd] at hK
      exact hK
  by_cases k1:n<512
  · exact fin 2 100 (by simp [lq,k1]) a2 d2 (by omega) (by unfold nD;rw [if_pos (by omega),if_pos h1])
  by_cases k2:n<8192
  · exact fin 3 1000 (by simp [lq,k1,k2]) a3 d3 (by omega) (by unfold nD;(repeat' split)<;>omega)
  by_cases k3:n<65536
  · exact fin 4 10000 (by simp [lq,k1,k2,k3]) a4 d4 (by omega) (by unfold nD;(repeat' split)<;>omega)
  by_cases k4:n<524288
  · exact fin 5 100000 (by simp [lq,k1,k2,k3,k4]) a5 d5 (by omega) (by unfold nD;(repeat' split)<;>omega)
  · exact fin 6 1000000 (by simp [lq,k1,k2,k3,k4]) a6 d6 (by omega) (by unfold nD;(repeat' split)<;>omega)
end Go.Proofs.YtgjlhdggllakbaaGreatDoor.Vm
namespace Go.Proofs.YtgjlhdggllakbaaGreatDoor.Vm
open Go
set_option maxRecDepth 100000
set_option linter.unusedSimpArgs false
set_option linter.unusedVariables false
attribute [-simp] List.getD_eq_getElem?_getD
theorem sm_lo:∀k,k<100→smL.data.toList.getD (2*k) 0=UInt8.ofNat (48+k / 10):=by decide +kernel
theorem sm_hi:∀k,k<100→smL.data.toList.getD (2*k+1) 0=UInt8.ofNat (48+k % 10):=by decide +kernel
theorem sm_ix {j d:Nat}(hj:j<200)(hd:d<10)(h:smL.data.toList.getD j 0=UInt8.ofNat (48+d)):vidxT (.str smL) (.int .u32 (j:Int))=some (.int .u8 ((48+d:Nat):Int)):=by
  have hz:smL.size=200:=by decide +kernel
  simp only [vidxT,vint]
  rw [if_pos (by omega)]
  have:smL.data.getD ((j:Int)).toNat 0=UInt8.ofNat (48+d):=by
    rw [Int.toNat_natCast,←h,Array.getD_eq_getD_getElem?,List.getD_eq_getElem?_getD,Array.getElem?_toList]
  rw [this]
  congr 2
  simp;omega
theorem st_row {H:Hp}{lim off:Nat}{cs:List V}{v:V}(hl:lim≤H.length)(h:off+1≤cs.length):vstoreH lim (H++[.row cs true]) H.length off [v]=some (H++[.row (splice cs off [v]) true]):=by
  simp only [vstoreH,hl,if_true,List.getElem?_concat_length,List.length_cons,List.length_nil,Nat.zero_add,h]
  congr 1
  rw [List.set_append_right _ _ (Nat.le_refl _),Nat.sub_self];rfl
theorem base3_t {H:Hp}{lim n:Nat}{K:V→Hp→Prop}(hlim:lim≤H.length)(h1:100≤n)(h2:n<1000)
    (hK:K (.tup []) (H++[.row (splice (List.replicate 24 (.int .u8 0)) 1 [.int .u8 ((48+n / 100:Nat):Int),.int .u8 ((48+n / 10 % 10:Nat):Int),.int .u8 ((48+n % 10:Nat):Int)]) true])):VCall tbl lim 104 [.sl H.length 1 3 1,.int .u64 (n:Int)] (H++[.row (List.replicate 24 (.int .u8 0)) true]) K:=by
  refine VCall_fn tbl_at104 rfl ?_
  obtain ⟨a,ha⟩:∃a:Nat,a=n % 100:=⟨_,rfl⟩
  obtain ⟨c,hc⟩:∃c:Nat,c=n / 100:=⟨_,rfl⟩
  obtain ⟨j,hj⟩:∃j:Nat,j=2*a:=⟨_,rfl⟩
  have r1:Int.tmod (n:Int) 100=(a:Int):=by rw [Int.tmod_eq_emod_of_nonneg (by omega)];omega
  have q1:Int.tdiv (n:Int) 100=(c:Int):=by rw [Int.tdiv_eq_ediv_of_nonneg (by omega)];omega
  have w0:IntKind.wrap .u32 (n:Int)=(n:Int):=by simp [IntKind.wrap,IntKind.bits,IntKind.signed];omega
  have w1:IntKind.wrap .u32 ((a:Int)*2)=(j:Int):=by simp [IntKind.wrap,IntKind.bits,IntKind.signed];omega
  have w2:IntKind.wrap .u32 ((j:Int)+1)=(j:Int)+1:=by simp [IntKind.wrap,IntKind.bits,IntKind.signed];omega
  have w3:IntKind.wrap .u32 (c:Int)=(c:Int):=by simp [IntKind.wrap,IntKind.bits,IntKind.signed];omega
  have w4:IntKind.wrap .u32 (48+(c:Int))=48+(c:Int):=by simp [IntKind.wrap,IntKind.bits,IntKind.signed];omega
  have w5:IntKind.wrap .u8 (48+(c:Int))=48+(c:Int):=by simp [IntKind.wrap,IntKind.bits,IntKind.signed];omega
  have x1:=sm_ix (j:=2*a+1) (d:=a % 10) (by omega) (by omega) (sm_hi a (by omega))
  have x0:=sm_ix (j:=2*a) (d:=a / 10) (by omega) (by omega) (sm_lo a (by omega))
  rw [←hj] at x0 x1
  have ej:((j+1:Nat):Int)=(j:Int)+1:=by omega
  rw [ej] at x1
  have e1:48+n / 100=48+c:=by omega
  have e2:48+n / 10 % 10=48+a / 10:=by omega
  have e3:48+n % 10=48+a % 10:=by omega
  rw [e1,e2,e3] at hK
  obtain ⟨d0,hd0⟩:∃d,d=48+a / 10:=⟨_,rfl⟩
  obtain ⟨d1,hd1⟩:∃d,d=48+a % 10:=⟨_,rfl⟩
  rw [←hd0] at x0 hK
  rw [←hd1] at x1 hK
  simp only [smL] at x0 x1
  simp [vf104]
  refine wLoop_round ?_
  have y2:viaddrS 1 (.sl H.length 1 3 1) (.int .i64 2)=some (.ptr H.length 3):=by simp [viaddrS,vint]
  have y1:viaddrS 1 (.sl H.length 1 3 1) (.int .i64 1)=some (.ptr H.length 2):=by simp [viaddrS,vint]
  have y0:viaddrS 1 (.sl H.length 1 3 1) (.int .i64 0)=some (.ptr H.length 1):=by simp [viaddrS,vint]
  simp (disch:=first | omega | (simp;done)) [w0,r1,q1,w1,w2,w3,w4,w5,x0,x1,y0,y1,y2,wrap_i64,st_row,splice]
  have ec:((48+c:Nat):Int)=48+(c:Int):=by omega
  rw [ec] at hK
  simp [splice] at hK
  exact hK
theorem u32_wrap {x:Nat}(h:x<4294967296):IntKind.wrap .u32 (x:Int)=(x:Int):=by simp [IntKind.wrap,IntKind.bits,IntKind.signed];omega
theorem base4_t {H:Hp}{lim n:Nat}{K:V→Hp→Prop}(hlim:lim≤H.length)(h1:1000≤n)(h2:n<10000)
    (hK:K (.tup []) (H++[.row (splice (List.replicate 24 (.int .u8 0)) 1 [.int .u8 ((48+n / 1000:Nat):Int),.int .u8 ((48+n / 100 % 10:Nat):Int),.int .u8 ((48+n / 10 % 10:Nat):Int),.int .u8 ((48+n % 10:Nat):Int)]) true])):VCall tbl lim 104 [.sl H.length 1 4 1,.int .u64 (n:Int)] (H++[.row (List.replicate 24 (.int .u8 0)) true]) K:=by
  refine VCall_fn tbl_at104 rfl ?_
  obtain ⟨a,ha⟩:∃a:Nat,a=n % 100:=⟨_,rfl⟩
  obtain ⟨c,hc⟩:∃c:Nat,c=n / 100:=⟨_,rfl⟩
  obtain ⟨j,hj⟩:∃j:Nat,j=2*a:=⟨_,rfl⟩
  obtain ⟨k,hk⟩:∃k:Nat,k=2*c:=⟨_,rfl⟩
  have r0:Int.tmod (n:Int) 10000=(n:Int):=by rw [Int.tmod_eq_emod_of_nonneg (by omega)];omega
  have q0:Int.tdiv (n:Int) 10000=0:=by rw [Int.tdiv_eq_ediv_of_nonneg (by omega)];omega
  have r1:Int.tmod (n:Int) 100=(a:Int):=by rw [Int.tmod_eq_emod_of_nonneg (by omega)];omega
  have q1:Int.tdiv (n:Int) 100=(c:Int):=by rw [Int.tdiv_eq_ediv_of_nonneg (by omega)];omega
  have w0:IntKind.wrap .u32 (n:Int)=(n:Int):=u32_wrap (by omega)
  have w1:IntKind.wrap .u32 ((a:Int)*2)=(j:Int):=by simp [IntKind.wrap,IntKind.bits,IntKind.signed];omega
  have w2:IntKind.wrap .u32 ((j:Int)+1)=(j:Int)+1:=by simp [IntKind.wrap,IntKind.bits,IntKind.signed];omega
  have w3:IntKind.wrap .u32 (c:Int)=(c:Int):=u32_wrap (by omega)
  have w4:IntKind.wrap .u32 ((c:Int)*2)=(k:Int):=by simp [IntKind.wrap,IntKind.bits,IntKind.signed];omega
  have w5:IntKind.wrap .u32 ((k:Int)+1)=(k:Int)+1:=by simp [IntKind.wrap,IntKind.bits,IntKind.signed];omega
  have w6:IntKind.wrap .u32 0=0:=rfl
  have x1:=sm_ix (j:=2*a+1) (d:=a % 10) (by omega) (by omega) (sm_hi a (by omega))
  have x0:=sm_ix (j:=2*a) (d:=a / 10) (by omega) (by omega) (sm_lo a (by omega))
  have x3:=sm_ix (j:=2*c+1) (d:=c % 10) (by omega) (by omega) (sm_hi c (by omega))
  have x2:=sm_ix (j:=2*c) (d:=c / 10) (by omega) (by omega) (sm_lo c (by omega))
  rw [←hj] at x0 x1
  rw [←hk] at x2 x3
  have ej:((j+1:Nat):Int)=(j:Int)+1:=by omega
  have ek:((k+1:Nat):Int)=(k:Int)+1:=by omega
  rw [ej] at x1
  rw [ek] at x3
  have e0:48+n / 1000=48+c / 10:=by omega
  have e1:48+n / 100 % 10=48+c % 10:=by omega
  have e2:48+n / 10 % 10=48+a / 10:=by omega
  have e3:48+n % 10=48+a % 10:=by omega
  rw [e0,e1,e2,e3] at hK
  obtain ⟨d0,hd0⟩:∃d,d=48+a / 10:=⟨_,rfl⟩
  obtain ⟨d1,hd1⟩:∃d,d=48+a % 10:=⟨_,rfl⟩
  obtain ⟨d2,hd2⟩:∃d,d=48+c / 10:=⟨_,rfl⟩
  obtain ⟨d3,hd3⟩:∃d,d=48+c % 10:=⟨_,rfl⟩
  rw [←hd0] at x0 hK
  rw [←hd1] at x1 hK
  rw [←hd2] at x2 hK
  rw [←hd3] at x3 hK
  simp only [smL] at x0 x1 x2 x3
  have y3:viaddrS 1 (.sl H.length 1 4 1) (.int .i64 3)=some (.ptr H.length 4):=by simp [viaddrS,vint]
  have y2:viaddrS 1 (.sl H.length 1 4 1) (.int .i64 2)=some (.ptr H.length 3):=by simp [viaddrS,vint]
  have y1:viaddrS 1 (.sl H.length 1 4 1) (.int .i64 1)=some (.ptr H.length 2):=by simp [viaddrS,vint]
  have y0:viaddrS 1 (.sl H.length 1 4 1) (.int .i64 0)=some (.ptr H.length 1):=by simp [viaddrS,vint]
  simp [vf104]
  refine wLoop_round ?_
  simp (disch:=first | omega | (simp;done)) [w0,r0,q0,r1,q1,w1,w2,w3,w4,w5,w6,x0,x1,x2,x3,y0,y1,y2,y3,wrap_i64,st_row,splice]
  simp [splice] at hK
  exact hK
theorem base5_t {H:Hp}{lim n:Nat}{K:V→Hp→Prop}(hlim:lim≤H.length)(h1:10000≤n)(h2:n<100000)
    (hK:K (.tup []) (H++[.row (splice (List.replicate 24 (.int .u8 0)) 1 [.int .u8 ((48+n / 10000:Nat):Int),.int .u8 ((48+n / 1000 % 10:Nat):Int),.int .u8 ((48+n / 100 % 10:Nat):Int),.int .u8 ((48+n / 10 % 10:Nat):Int),.int .u8 ((48+n % 10:Nat):Int)]) true])):VCall tbl lim 104 [.sl H.length 1 5 1,.int .u64 (n:Int)] (H++[.row (List.replicate 24 (.int .u8 0)) true]) K:=by
  refine VCall_fn tbl_at104 rfl ?_
  obtain ⟨u,hu⟩:∃u:Nat,u=n % 10000:=⟨_,rfl⟩
  obtain ⟨e,he⟩:∃e:Nat,e=n / 10000:=⟨_,rfl⟩
  obtain ⟨a,ha⟩:∃a:Nat,a=u % 100:=⟨_,rfl⟩
  obtain ⟨c,hc⟩:∃c:Nat,c=u / 100:=⟨_,rfl⟩
  obtain ⟨j,hj⟩:∃j:Nat,j=2*a:=⟨_,rfl⟩
  obtain ⟨k,hk⟩:∃k:Nat,k=2*c:=⟨_,rfl⟩
  have r0:Int.tmod (n:Int) 10000=(u:Int):=by rw [Int.tmod_eq_emod_of_nonneg (by omega)];omega
  have q0:Int.tdiv (n:Int) 10000=(e:Int):=by rw [Int.tdiv_eq_ediv_of_nonneg (by omega)];omega
  have r1:Int.tmod (u:Int) 100=(a:Int):=by rw [Int.tmod_eq_emod_of_nonneg (by omega)];omega
  have q1:Int.tdiv (u:Int) 100=(c:Int):=by rw [Int.tdiv_eq_ediv_of_nonneg (by omega)];omega
  have w0:IntKind.wrap .u32 (n:Int)=(n:Int):=u32_wrap (by omega)
  have w1:IntKind.wrap .u32 ((a:Int)*2)=(j:Int):=by simp [IntKind.wrap,IntKind.bits,IntKind.signed];omega
  have w2:IntKind.wrap .u32 ((j:Int)+1)=(j:Int)+1:=by simp [IntKind.wrap,IntKind.bits,IntKind.signed];omega
  have w3:IntKind.wrap .u32 (c:Int)=(c:Int):=u32_wrap (by omega)
  have w4:IntKind.wrap .u32 ((c:Int)*2)=(k:Int):=by simp [IntKind.wrap,IntKind.bits,IntKind.signed];omega
  have w5:IntKind.wrap .u32 ((k:Int)+1)=(k:Int)+1:=by simp [IntKind.wrap,IntKind.bits,IntKind.signed];omega
  have w6:IntKind.wrap .u32 (e:Int)=(e:Int):=u32_wrap (by omega)
  have w7:IntKind.wrap .u32 (48+(e:Int))=48+(e:Int):=by simp [IntKind.wrap,IntKind.bits,IntKind.signed];omega
  have w8:IntKind.wrap .u8 (48+(e:Int))=48+(e:Int):=by simp [IntKind.wrap,IntKind.bits,IntKind.signed];omega
  have x1:=sm_ix (j:=2*a+1) (d:=a % 10) (by omega) (by omega) (sm_hi a (by omega))
  have x0:=sm_ix (j:=2*a) (d:=a / 10) (by omega) (by omega) (sm_lo a (by omega))
  have x3:=sm_ix (j:=2*c+1) (d:=c % 10) (by omega) (by omega) (sm_hi c (by omega))
  have x2:=sm_ix (j:=2*c) (d:=c / 10) (by omega) (by omega) (sm_lo c (by omega))
  rw [←hj] at x0 x1
  rw [←hk] at x2 x3
  have ej:((j+1:Nat):Int)=(j:Int)+1:=by omega
  have ek:((k+1:Nat):Int)=(k:Int)+1:=by omega
  rw [ej] at x1
  rw [ek] at x3
  have e9:((48+n / 10000:Nat):Int)=48+(e:Int):=by omega
  have e0:48+n / 1000 % 10=48+c / 10:=by omega
  have e1:48+n / 100 % 10=48+c % 10:=by omega
  have e2:48+n / 10 % 10=48+a / 10:=by omega
  have e3:48+n % 10=48+a % 10:=by omega
  rw [e9,e0,e1,e2,e3] at hK
  obtain ⟨d0,hd0⟩:∃d,d=48+a / 10:=⟨_,rfl⟩
  obtain ⟨d1,hd1⟩:∃d,d=48+a % 10:=⟨_,rfl⟩
  obtain ⟨d2,hd2⟩:∃d,d=48+c / 10:=⟨_,rfl⟩
  obtain ⟨d3,hd3⟩:∃d,d=48+c % 10:=⟨_,rfl⟩
  rw [←hd0] at x0 hK
  rw [←hd1] at x1 hK
  rw [←hd2] at x2 hK
  rw [←hd3] at x3 hK
  simp only [smL] at x0 x1 x2 x3
  have y4:viaddrS 1 (.sl H.length 1 5 1) (.int .i64 4)=some (.ptr H.length 5):=by simp [viaddrS,vint]
  have y3:viaddrS 1 (.sl H.length 1 5 1) (.int .i64 3)=some (.ptr H.length 4):=by simp [viaddrS,vint]
  have y2:viaddrS 1 (.sl H.length 1 5 1) (.int .i64 2)=some (.ptr H.length 3):=by simp [viaddrS,vint]
  have y1:viaddrS 1 (.sl H.length 1 5 1) (.int .i64 1)=some (.ptr H.length 2):=by simp [viaddrS,vint]
  have y0:viaddrS 1 (.sl H.length 1 5 1) (.int .i64 0)=some (.ptr H.length 1):=by simp [viaddrS,vint]
  simp [vf104]
  refine wLoop_round ?_
  simp (disch:=first | omega | (simp;done)) [w0,r0,q0,r1,q1,w1,w2,w3,w4,w5,w6,w7,w8,x0,x1,x2,x3,y0,y1,y2,y3,y4,wrap_i64,st_row,splice]
  simp [splice] at hK
  exact hK
theorem base6_t {H:Hp}{lim n:Nat}{K:V→Hp→Prop}(hlim:lim≤H.length)(h1:100000≤n)(h2:n<1000000)
    (hK:K (.tup []) (H++[.row (splice (List.replicate 24 (.int .u8 0)) 1 [.int .u8 ((48+n / 100000:Nat):Int),.int .u8 ((48+n / 10000 % 10:Nat):Int),.int .u8 ((48+n / 1000 % 10:Nat):Int),.int .u8 ((48+n / 100 % 10:Nat):Int),.int .u8 ((48+n / 10 % 10:Nat):Int),.int .u8 ((48+n % 10:Nat):Int)]) true])):VCall tbl lim 104 [.sl H.length 1 6 1,.int .u64 (n:Int)] (H++[.row (List.replicate 24 (.int .u8 0)) true]) K:=by
  refine VCall_fn tbl_at104 rfl ?_
  obtain ⟨u,hu⟩:∃u:Nat,u=n % 10000:=⟨_,rfl⟩
  obtain ⟨e,he⟩:∃e:Nat,e=n / 10000:=⟨_,rfl⟩
  obtain ⟨g,hg⟩:∃g:Nat,g=2*e:=⟨_,rfl⟩
  obtain ⟨a,ha⟩:∃a:Nat,a=u % 100:=⟨_,rfl⟩
  obtain ⟨c,hc⟩:∃c:Nat,c=u / 100:=⟨_,rfl⟩
  obtain ⟨j,hj⟩:∃j:Nat,j=2*a:=⟨_,rfl⟩
  obtain ⟨k,hk⟩:∃k:Nat,k=2*c:=⟨_,rfl⟩
  have r0:Int.tmod (n:Int) 10000=(u:Int):=by rw [Int.tmod_eq_emod_of_nonneg (by omega)];omega
  have q0:Int.tdiv (n:Int) 10000=(e:Int):=by rw [Int.tdiv_eq_ediv_of_nonneg (by omega)];omega
  have r1:Int.tmod (u:Int) 100=(a:Int):=by rw [Int.tmod_eq_emod_of_nonneg (by omega)];omega
  have q1:Int.tdiv (u:Int) 100=(c:Int):=by rw [Int.tdiv_eq_ediv_of_nonneg (by omega)];omega
  have w0:IntKind.wrap .u32 (n:Int)=(n:Int):=u32_wrap (by omega)
  have w1:IntKind.wrap .u32 ((a:Int)*2)=(j:Int):=by simp [IntKind.wrap,IntKind.bits,IntKind.signed];omega
  have w2:IntKind.wrap .u32 ((j:Int)+1)=(j:Int)+1:=by simp [IntKind.wrap,IntKind.bits,IntKind.signed];omega
  have w3:IntKind.wrap .u32 (c:Int)=(c:Int):=u32_wrap (by omega)
  have w4:IntKind.wrap .u32 ((c:Int)*2)=(k:Int):=by simp [IntKind.wrap,IntKind.bits,IntKind.signed];omega
  have w5:IntKind.wrap .u32 ((k:Int)+1)=(k:Int)+1:=by simp [IntKind.wrap,IntKind.bits,IntKind.signed];omega
  have w6:IntKind.wrap .u32 (e:Int)=(e:Int):=u32_wrap (by omega)
  have r2:Int.tmod (e:Int) 100=(e:Int):=by rw [Int.tmod_eq_emod_of_nonneg (by omega)];omega
  have q2:Int.tdiv (e:Int) 100=0:=by rw [Int.tdiv_eq_ediv_of_nonneg (by omega)];omega
  have w7:IntKind.wrap .u32 ((e:Int)*2)=(g:Int):=by simp [IntKind.wrap,IntKind.bits,IntKind.signed];omega
  have w8:IntKind.wrap .u32 ((g:Int)+1)=(g:Int)+1:=by simp [IntKind.wrap,IntKind.bits,IntKind.signed];omega
  have w9:IntKind.wrap .u32 0=0:=rfl
  have x5:=sm_ix (j:=2*e+1) (d:=e % 10) (by omega) (by omega) (sm_hi e (by omega))
  have x4:=sm_ix (j:=2*e) (d:=e / 10) (by omega) (by omega) (sm_lo e (by omega))
  rw [←hg] at x4 x5
  have eg:((g+1:Nat):Int)=(g:Int)+1:=by omega
  rw [eg] at x5
  have x1:=sm_ix (j:=2*a+1) (d:=a % 10) (by omega) (by omega) (sm_hi a (by omega))
  have x0:=sm_ix (j:=2*a) (d:=a / 10) (by omega) (by omega) (sm_lo a (by omega))
  have x3:=sm_ix (j:=2*c+1) (d:=c % 10) (by omega) (by omega) (sm_hi c (by omega))
  have x2:=sm_ix (j:=2*c) (d:=c / 10) (by omega) (by omega) (sm_lo c (by omega))
  rw [←hj] at x0 x1
  rw [←hk] at x2 x3
  have ej:((j+1:Nat):Int)=(j:Int)+1:=by omega
  have ek:((k+1:Nat):Int)=(k:Int)+1:=by omega
  rw [ej] at x1
  rw [ek] at x3
  have e9:48+n / 100000=48+e / 10:=by omega
  have e8:48+n / 10000 % 10=48+e % 10:=by omega
  have e0:48+n / 1000 % 10=48+c / 10:=by omega
  have e1:48+n / 100 % 10=48+c % 10:=by omega
  have e2:48+n / 10 % 10=48+a / 10:=by omega
  have e3:48+n % 10=48+a % 10:=by omega
  rw [e9,e8,e0,e1,e2,e3] at hK
  obtain ⟨d0,hd0⟩:∃d,d=48+a / 10:=⟨_,rfl⟩
  obtain ⟨d1,hd1⟩:∃d,d=48+a % 10:=⟨_,rfl⟩
  obtain ⟨d2,hd2⟩:∃d,d=48+c / 10:=⟨_,rfl⟩
  obtain ⟨d3,hd3⟩:∃d,d=48+c % 10:=⟨_,rfl⟩
  obtain ⟨d4,hd4⟩:∃d,d=48+e / 10:=⟨_,rfl⟩
  obtain ⟨d5,hd5⟩:∃d,d=48+e % 10:=⟨_,rfl⟩
  rw [←hd4] at x4 hK
  rw [←hd5] at x5 hK
  rw [←hd0] at x0 hK
  rw [←hd1] at x1 hK
  rw [←hd2] at x2 hK
  rw [←hd3] at x3 hK
  simp only [smL] at x0 x1 x2 x3 x4 x5
  have y5:viaddrS 1 (.sl H.length 1 6 1) (.int .i64 5)=some (.ptr H.length 6):=by simp [viaddrS,vint]
  have y4:viaddrS 1 (.sl H.length 1 6 1) (.int .i64 4)=some (.ptr H.length 5):=by simp [viaddrS,vint]
  have y3:viaddrS 1 (.sl H.length 1 6 1) (.int .i64 3)=some (.ptr H.length 4):=by simp [viaddrS,vint]
  have y2:viaddrS 1 (.sl H.length 1 6 1) (.int .i64 2)=some (.ptr H.length 3):=by simp [viaddrS,vint]
  have y1:viaddrS 1 (.sl H.length 1 6 1) (.int .i64 1)=some (.ptr H.length 2):=by simp [viaddrS,vint]
  have y0:viaddrS 1 (.sl H.length 1 6 1) (.int .i64 0)=some (.ptr H.length 1):=by simp [viaddrS,vint]
  simp [vf104]
  refine wLoop_round ?_
  simp (disch:=first | omega | (simp;done)) [w0,r0,q0,r1,q1,w1,w2,w3,w4,w5,w6,r2,q2,w7,w8,w9,x0,x1,x2,x3,x4,x5,y0,y1,y2,y3,y4,y5,wrap_i64,st_row,splice]
  simp [splice] at hK
  exact hK
theorem base7_t {H:Hp}{lim:Nat}{K:V→Hp→Prop}(hlim:lim≤H.length)
    (hK:K (.tup []) (H++[.row (splice (List.replicate 24 (.int .u8 0)) 1 [.int .u8 49,.int .u8 48,.int .u8 48,.int .u8 48,.int .u8 48,.int .u8 48,.int .u8 48]) true])):VCall tbl lim 104 [.sl H.length 1 7 1,.int .u64 1000000] (H++[.row (List.replicate 24 (.int .u8 0)) true]) K:=by
  refine VCall_fn tbl_at104 rfl ?_
  have r0:Int.tmod (1000000:Int) 10000=0:=rfl
  have q0:Int.tdiv (1000000:Int) 10000=100:=rfl
  have r1:Int.tmod (0:Int) 100=0:=rfl
  have q1:Int.tdiv (0:Int) 100=0:=rfl
  have r2:Int.tmod (100:Int) 100=0:=rfl
  have q2:Int.tdiv (100:Int) 100=1:=rfl
  have w0:IntKind.wrap .u32 1000000=1000000:=rfl
  have w1:IntKind.wrap .u32 0=0:=rfl
  have w2:IntKind.wrap .u32 1=1:=rfl
  have w3:IntKind.wrap .u32 100=100:=rfl
  have w4:IntKind.wrap .u32 49=49:=rfl
  have w5:IntKind.wrap .u8 49=49:=rfl
  have x1:vidxT (.str smL) (.int .u32 1)=some (.int .u8 48):=sm_ix (j:=1) (d:=0) (by omega) (by omega) (sm_hi 0 (by omega))
  have x0:vidxT (.str smL) (.int .u32 0)=some (.int .u8 48):=sm_ix (j:=0) (d:=0) (by omega) (by omega) (sm_lo 0 (by omega))
  simp only [smL] at x0 x1
  have y6:viaddrS 1 (.sl H.length 1 7 1) (.int .i64 6)=some (.ptr H.length 7):=by simp [viaddrS,vint]
  have y5:viaddrS 1 (.sl H.length 1 7 1) (.int .i64 5)=some (.ptr H.length 6):=by simp [viaddrS,vint]
  have y4:viaddrS 1 (.sl H.length 1 7 1) (.int .i64 4)=some (.ptr H.length 5):=by simp [viaddrS,vint]
  have y3:viaddrS 1 (.sl H.length 1 7 1) (.int .i64 3)=some (.ptr H.length 4):=by simp [viaddrS,vint]
  have y2:viaddrS 1 (.sl H.length 1 7 1) (.int .i64 2)=some (.ptr H.length 3):=by simp [viaddrS,vint]
  have y1:viaddrS 1 (.sl H.length 1 7 1) (.int .i64 1)=some (.ptr H.length 2):=by simp [viaddrS,vint]
  have y0:viaddrS 1 (.sl H.length 1 7 1) (.int .i64 0)=some (.ptr H.length 1):=by simp [viaddrS,vint]
  simp [vf104]
  refine wLoop_round ?_
  simp (disch:=first | omega | (simp;done)) [r0,q0,r1,q1,r2,q2,w0,w1,w2,w3,w4,w5,x0,x1,y0,y1,y2,y3,y4,y5,y6,wrap_i64,st_row,splice]
  simp [splice] at hK
  exact hK
end Go.Proofs.YtgjlhdggllakbaaGreatDoor.Vm
namespace Go.Proofs.YtgjlhdggllakbaaGreatDoor.Vm
open Go
set_option maxRecDepth 100000
set_option linter.unusedSimpArgs false
set_option linter.unusedVariables false
attribute [-simp] List.getD_eq_getElem?_getD
theorem dd3 {n:Nat}(h1:100≤n)(h2:n<1000):Lib.decDigits n=[UInt8.ofNat (48+n / 100),UInt8.ofNat (48+n / 10 % 10),UInt8.ofNat (48+n % 10)]:=by
  rw [dd_big (by omega),dd_big (by omega),Lib.decDigits_one (by omega),show n / 10 / 10=n / 100 by omega];rfl
theorem dd4 {n:Nat}(h1:1000≤n)(h2:n<10000):Lib.decDigits n=[UInt8.ofNat (48+n / 1000),UInt8.ofNat (48+n / 100 % 10),UInt8.ofNat (48+n / 10 % 10),UInt8.ofNat (48+n % 10)]:=by
  rw [dd_big (by omega),dd3 (by omega) (by omega),show n / 10 / 100=n / 1000 by omega,show n / 10 / 10=n / 100 by omega];rfl
theorem dd5 {n:Nat}(h1:10000≤n)(h2:n<100000):Lib.decDigits n=[UInt8.ofNat (48+n / 10000),UInt8.ofNat (48+n / 1000 % 10),UInt8.ofNat (48+n / 100 % 10),UInt8.ofNat (48+n / 10 % 10),UInt8.ofNat (48+n % 10)]:=by
  rw [dd_big (by omega),dd4 (by omega) (by omega),show n / 10 / 1000=n / 10000 by omega,show n / 10 / 100=n / 1000 by omega,show n / 10 / 10=n / 100 by omega];rfl
theorem dd6 {n:Nat}(h1:100000≤n)(h2:n<1000000):Lib.decDigits n=[UInt8.ofNat (48+n / 100000),UInt8.ofNat (48+n / 10000 % 10),UInt8.ofNat (48+n / 1000 % 10),UInt8.ofNat (48+n / 100 % 10),UInt8.ofNat (48+n / 10 % 10),UInt8.ofNat (48+n % 10)]:=by
  rw [dd_big (by omega),dd5 (by omega) (by omega),show n / 10 / 10000=n / 100000 by omega,show n / 10 / 1000=n / 10000 by omega,show n / 10 / 100=n / 1000 by omega,show n / 10 / 10=n / 100 by omega];rfl
theorem bytesOf_n:∀{ds:List Nat},(∀d∈ds,d<256)→bytesOf (ds.map fun d:Nat=>V.int .u8 (d:Int))=some (ds.map UInt8.ofNat)
  | [],_=>rfl
  | d :: ds,h=>by
    have hd:=h d (by simp)
    have ih:=bytesOf_n (ds:=ds) fun x hx=>h x (by simp [hx])
    simp only [List.map_cons,bytesOf,byteOf,ih]
    simp
theorem strB_z {H:Hp}{ds:List Nat}(h:∀d∈ds,d<256)(hl:ds.length≤20):vstrB (H++[.row (splice (List.replicate 24 (.int .u8 0)) 1 (ds.map fun d:Nat=>V.int .u8 (d:Int))) true]) (.sl H.length 1 ds.length 1)=some (.str (bA (ds.map UInt8.ofNat))):=by
  have e:vcells 1 (H++[.row (splice (List.replicate 24 (.int .u8 0)) 1 (ds.map fun d:Nat=>V.int .u8 (d:Int))) true]) (.sl H.length 1 ds.length 1)=some (ds.map fun d:Nat=>V.int .u8 (d:Int)):=by
    simp only [vcells,List.getElem?_concat_length]
    have e1:(splice (List.replicate 24 (V.int .u8 0)) 1 (ds.map fun d:Nat=>V.int .u8 (d:Int)))=(V.int .u8 0) :: ((ds.map fun d:Nat=>V.int .u8 (d:Int))++(List.replicate 24 (V.int .u8 0)).drop (1+ds.length)):=by
      simp [splice]
    rw [e1]
    simp
    omega
  simp only [vstrB,e,bytesOf_n h]
  rfl
theorem slA_z {H:Hp}{R:List V}{d:Nat}(hR:R.length=24)(h1:1≤d)(h2:d≤20):vslA 24 1 (H++[.row R true]) (.ptr H.length 0) (some (.int .i64 1)) (some (.int .i64 (1+(d:Int))))=some (.sl H.length 1 d 1):=by
  have hb:vbounds 24 (some (.int .i64 1)) (some (.int .i64 (1+(d:Int))))=some (1,1+d):=by
    simp only [vbounds,vint]
    rw [if_pos (by omega),if_pos (by omega)]
    congr 2
  have e1:¬(1=1+d):=by omega
  have e2:1+d-1=d:=by omega
  simp only [vslA,List.getElem?_concat_length,hR,hb,e1,e2,if_false]
  simp
theorem splice_len {R cs:List V}{o:Nat}(h:o+cs.length≤R.length):(splice R o cs).length=R.length:=by
  simp [splice];omega
theorem zr:List.replicate 24 (V.int .u8 0)=[V.int .u8 0,V.int .u8 0,V.int .u8 0,V.int .u8 0,V.int .u8 0,V.int .u8 0,V.int .u8 0,V.int .u8 0,V.int .u8 0,V.int .u8 0,V.int .u8 0,V.int .u8 0,V.int .u8 0,V.int .u8 0,V.int .u8 0,V.int .u8 0,V.int .u8 0,V.int .u8 0,V.int .u8 0,V.int .u8 0,V.int .u8 0,V.int .u8 0,V.int .u8 0,V.int .u8 0]:=Eq.trans rfl rfl
theorem base_t {H:Hp}{lim n:Nat}(hlim:lim≤H.length)(h1:100≤n)(h2:n≤1000000):∃ds:List Nat,nD n=ds.length∧(∀d∈ds,d<256)∧1≤ds.length∧ds.length≤7∧ds.map UInt8.ofNat=Lib.decDigits n ∧
    (∀K':V→Hp→Prop,K' (.tup []) (H++[.row (splice (List.replicate 24 (.int .u8 0)) 1 (ds.map fun d:Nat=>V.int .u8 (d:Int))) true])→VCall tbl lim 104 [.sl H.length 1 ds.length 1,.int .u64 (n:Int)] (H++[.row (List.replicate 24 (.int .u8 0)) true]) K'):=by
  by_cases c3:n<1000
  · exact ⟨[48+n / 100,48+n / 10 % 10,48+n % 10],by unfold nD;simp [c3],by simp;omega,by simp,by simp,by rw [dd3 h1 c3];rfl,fun K' h=>base3_t hlim h1 c3 h⟩
  by_cases c4:n<10000
  · exact ⟨[48+n / 1000,48+n / 100 % 10,48+n / 10 % 10,48+n % 10],by unfold nD;simp [c3,c4],by simp;omega,by simp,by simp,by rw [dd4 (by omega) c4];rfl,fun K' h=>base4_t hlim (by omega) c4 h⟩
  by_cases c5:n<100000
  · exact ⟨[48+n / 10000,48+n / 1000 % 10,48+n / 100 % 10,48+n / 10 % 10,48+n % 10],by unfold nD;simp [c3,c4,c5],by simp;omega,by simp,by simp,by rw [dd5 (by omega) c5];rfl,fun K' h=>base5_t hlim (by omega) c5 h⟩
  by_cases c6:n<1000000
  · exact ⟨[48+n / 100000,48+n / 10000 % 10,48+n / 1000 % 10,48+n / 100 % 10,48+n / 10 % 10,48+n % 10],by unfold nD;simp [c3,c4,c5,c6],by simp;omega,by simp,by simp,by rw [dd6 (by omega) c6];rfl,fun K' h=>base6_t hlim (by omega) c6 h⟩
  obtain rfl:n=1000000:=by omega
  have e:Lib.decDigits 1000000=[49,48,48,48,48,48,48]:=by
    rw [dd_big (by omega),dd6 (by omega) (by omega)];rfl
  exact ⟨[49,48,48,48,48,48,48],by unfold nD;simp,by simp,by simp,by simp,by rw [e];rfl,fun K' h=>base7_t hlim h⟩
theorem format_t {H:Hp}{lim n:Nat}{K:V→Hp→Prop}(hg:HX glHp H)(hlim:lim≤H.length)(hn:n≤1000000)(hK:∀H',HX H H'→K (.str (bA (Lib.decDigits n))) H'):VCall tbl lim 74 [.int .i64 (n:Int),.int .i64 10] H K:=by
  refine VCall_fn tbl_at74 rfl ?_
  have p0:((0:Int)≤(n:Int))=True:=eq_true (by omega)
  have p1:((n:Int)<0)=False:=eq_false (by omega)
  by_cases h1:n<100
  · have h1':((n:Int)<100)=True:=eq_true (by omega)
    simp [vf74,p0,h1']
    refine small_t h1 ?_
    simp
    exact hK H .refl
  · have h1':((n:Int)<100)=False:=eq_false (by omega)
    have wu:IntKind.wrap .u64 (n:Int)=(n:Int):=by simp [IntKind.wrap,IntKind.bits,IntKind.signed];omega
    simp [vf74,p0,p1,h1',wu]
    refine numDigits_t (hg.trans ⟨_,rfl⟩) (by omega) hn ?_
    simp
    obtain ⟨ds,e1,e2,e3,e4,e5,e6⟩:=base_t hlim (show 100≤n by omega) hn
    have eI:((nD n:Nat):Int)=(ds.length:Int):=by rw [e1]
    have w1:IntKind.wrap .i64 (1+(ds.length:Int))=1+(ds.length:Int):=wrap_i64 (by omega) (by omega)
    have sA:=slA_z (H:=H) (R:=List.replicate 24 (V.int .u8 0)) (d:=ds.length) (by simp) e3 (by omega)
    have hR:(splice (List.replicate 24 (V.int .u8 0)) 1 (ds.map fun d:Nat=>V.int .u8 (d:Int))).length=24:=by rw [splice_len (by simp;omega)];simp
    have sB:=slA_z (H:=H) (d:=ds.length) hR e3 (by omega)
    have sC:=strB_z (H:=H) e2 (by omega)
    rw [e5] at sC
    rw [zr] at sA sB sC e6
    rw [eI]
    simp [w1,sA]
    refine e6 _ ?_
    generalize splice _ 1 (ds.map fun d:Nat=>V.int .u8 (d:Int))=R at *
    simp [w1,p1,sB,sC,eI]
    exact hK _ ⟨_,rfl⟩
theorem itoa_t {H:Hp}{lim n:Nat}{K:V→Hp→Prop}(hg:HX glHp H)(hlim:lim≤H.length)(hn:n≤1000000)(hK:∀H',HX H H'→K (.str (bA (Lib.decDigits n))) H'):VCall tbl lim 37 [.int .i64 (n:Int)] H K:=by
  refine VCall_fn tbl_at37 rfl ?_
  simp [vf37]
  refine VCall_fn tbl_at61 rfl ?_
  simp [vf61]
  refine format_t hg hlim hn fun H1 x1 => ?_
  simp
  exact hK H1 x1
end Go.Proofs.YtgjlhdggllakbaaGreatDoor.Vm
namespace Go.Proofs.YtgjlhdggllakbaaGreatDoor.Vm
open Go
set_option maxRecDepth 100000
set_option linter.unusedSimpArgs false
set_option linter.unusedVariables false
attribute [-simp] List.getD_eq_getElem?_getD
theorem splitc_t {H:Hp}{lim:Nat}{c:UInt8}{s:ByteArray}{K:V→Hp→Prop}(hs:s.size<4294967281)(hK:K (.sl H.length 0 (wds c s.data.toList).length 1) (H++[.row (strC.all ((wds c s.data.toList).map bA)) true])):VCall tbl lim 42 [.str s,.str ⟨#[c]⟩] H K:=by
  have hw:wordsB s c=(wds c s.data.toList).map bA:=by
    have h1:=Lib.splitB_data ⟨#[c]⟩ 0 (Lib.countB s ⟨#[c]⟩) s
    have h2:Lib.splitK [c] 0 (Lib.countB s ⟨#[c]⟩) s.data.toList=wds c s.data.toList:=split_wds _ _ (countB_one s c).symm
    have h3:(wordsB s c).map (fun a:ByteArray=>a.data.toList)=wds c s.data.toList:=h1.trans h2
    rw [←h3,List.map_map]
    have:(wordsB s c).map (bA∘fun a:ByteArray=>a.data.toList)=(wordsB s c).map id:=List.map_congr_left fun a _=>bA_list
    rw [this,List.map_id]
  refine VCall_prim (g:=pSplit) (bs:=[.row (strC.all ((wds c s.data.toList).map bA)) true]) tbl_at42 rfl rfl (v:=.sl H.length 0 (wds c s.data.toList).length 1) ?_ hK
  have h5:∀l:List ByteArray,strC.all l=l.map V.str:=fun l=>by
    induction l with
    | nil=>rfl
    | cons a l ih=>rw [Cod.all_cons,ih];rfl
  have h6:((wds c s.data.toList).map bA |>.map V.str).all flatV=true:=by
    rw [List.all_eq_true]
    intro x hx
    obtain ⟨a,-,rfl⟩:=List.mem_map.1 hx
    rfl
  have hg:gSplit [.str s,.str ⟨#[c]⟩]=some (((wds c s.data.toList).map bA).map V.str):=by
    show (if s.size<4294967281 then some ((wordsB s c).map V.str) else none)=_
    rw [if_pos hs,hw]
  have hf:([V.str s,V.str ⟨#[c]⟩]:List V).all flatV=true:=rfl
  simp only [pSplit,rowP,hf,hg,h6,Bool.and_self,if_true,List.length_map,h5]
theorem chkE_of {H:Hp}(h:HX glHp H):chkE H=true:=by
  obtain ⟨X,rfl⟩:=h
  rfl
theorem end3 (l:List UInt8):(∃n,Lib.atoiAll l=.ok n)∨Lib.atoiAll l=.syntax∨Lib.atoiAll l=.range:=by
  cases Lib.atoiAll l<;>simp
theorem strC_all:∀{l:List ByteArray},strC.all l=l.map V.str
  | []=>rfl
  | a :: l=>by rw [Cod.all_cons,strC_all (l:=l)];rfl
end Go.Proofs.YtgjlhdggllakbaaGreatDoor.Vm
namespace Go.Proofs.YtgjlhdggllakbaaGreatDoor.Vm
open Go
set_option maxRecDepth 100000
set_option maxHeartbeats 1000000
set_option linter.unusedSimpArgs false
set_option linter.unusedVariables false
attribute [-simp] List.getD_eq_getElem?_getD
theorem vapp_own {lim n:Nat}{H:Hp}{v y:V}{a l:List Int}(h:OwnV n H v a)(hy:SlV H y l)(hlim:lim≤n)(hn:n≤H.length)(hl:a.length<1000000∧l.length<1000000) :
    ∃v' H',vappend lim 1 8 H v y=some (v',H')∧OwnV n H' v' (a++l)∧(∀H0,HX H0 H→H0.length≤n→HX H0 H')∧n≤H'.length:=by
  cases h with
  | nil =>
    obtain ⟨v',H',e,o,x⟩:=vappend_nil (lim:=lim) hy hn hl.2
    exact ⟨v',H',e,by simpa using o,fun H0 h0 _=>h0.trans x,by have:=x.len;omega⟩
  | row h1 h3 =>
    rename_i b
    have hb:=(List.getElem?_eq_some_iff.1 h3).1
    refine ⟨.sl H.length 0 (a++l).length 1,H.set b .dead++[.row (ints (a++l)) true],?_,.row hn ?_,fun H0 hx hk => ?_,by simp;omega⟩
    · simp only [vappend,hy.cells,hy.len]
      simp [h3,show lim≤b by omega,show (a.length+l.length)*8≤140737488355328 by omega,show a.length+l.length<4611686018427387904 by omega]
      simp [ints]
    · have:H.length=(H.set b .dead).length:=by simp
      rw [this];exact List.getElem?_concat_length
    · obtain ⟨X,rfl⟩:=hx
      refine HX.of (by simp;omega) fun i hi => ?_
      rw [List.getElem?_append_left (by simp;omega),List.getElem?_set_ne (by omega),List.getElem?_append_left hi]
def altP (p:Pc)(i:Nat):List Int:=((p.s.zip p.a).take i).flatMap fun x=>[x.1,x.2]
theorem alt_next {p:Pc}(h:p.a.length=p.s.length){i:Nat}(hi:i<p.s.length):altP p (i+1)=altP p i++[p.s.getD i 0,p.a.getD i 0]:=by
  have hz:(p.s.zip p.a)[i]? = some (p.s.getD i 0,p.a.getD i 0):=by
    rw [List.getElem?_zip_eq_some]
    simp [List.getD_eq_getElem?_getD,List.getElem?_eq_getElem hi,List.getElem?_eq_getElem (show i<p.a.length by omega)]
  unfold altP
  rw [List.take_add_one,hz,Option.toList_some,List.flatMap_append]
  simp
theorem alt_all {p:Pc}(h:p.a.length=p.s.length):toN (altP p p.s.length)=flP (pcX p):=by
  unfold altP
  rw [List.take_of_length_le (by simp;omega)]
  unfold pcX flP toN
  generalize p.s.zip p.a=z
  induction z with
  | nil=>rfl
  | cons x z ih=>simp only [List.flatMap_cons,List.map_append,List.map_cons,List.map_nil,ih]
theorem alt_len {p:Pc}:∀i,(altP p i).length≤2*i
  | 0=>by simp [altP]
  | i+1=>by
    have:=alt_len (p:=p) i
    unfold altP at this ⊢
    rw [List.take_add_one,List.flatMap_append,List.length_append]
    cases (p.s.zip p.a)[i]? with
    | none=>simp only [Option.toList_none,List.flatMap_nil,List.length_nil];omega
    | some x=>simp only [Option.toList_some,List.flatMap_cons,List.flatMap_nil,List.length_append,List.length_cons,List.length_nil];omega
theorem alt_bd {p:Pc}(h:PcB p){i:Nat}:∀x∈altP p i,0≤x∧x≤999:=by
  intro x hx
  unfold altP at hx
  obtain ⟨y,hy,hx⟩:=List.mem_flatMap.1 hx
  have hy:=List.mem_of_mem_take hy
  have h1:=h.s y.1 (List.of_mem_zip (by exact hy)).1
  have h2:=h.a y.2 (List.of_mem_zip (by exact hy)).2
  simp only [List.mem_cons,List.not_mem_nil,or_false] at hx
  rcases hx with rfl | rfl<;>omega
theorem toN_small {l:List Int}(h:∀x∈l,0≤x∧x≤999){i:Nat}:∀n∈toN (l.take i),n≤999:=by
  intro n hn
  unfold toN at hn
  obtain ⟨x,hx,rfl⟩:=List.mem_map.1 hn
  have:=h x (List.mem_of_mem_take hx)
  omega
def lnP (l:List Pc):List UInt8:=l.flatMap fun p=>lnL pieceL (flP (pcX p))++[10]
def lnS (l:List Sm):List UInt8:=l.flatMap fun s=>lnL seamL (smT s)++[10]
theorem fmtK_eq {c:Cp}:fmtK c=lnL easeL [c.e.toNat]++[10]++lnP c.P++lnS c.S:=by
  unfold fmtK fmtC capLs lnP lnS
  simp [List.flatMap_cons,List.flatMap_append,List.flatMap_map]
theorem lnL_len {w:List UInt8}{l:List Nat}(h:∀n∈l,n≤999):(lnL w l).length≤w.length+4*l.length:=by
  have:=nums_lenS (c:=32) h
  unfold lnL
  rw [List.length_append];omega
theorem lnP_len:∀{l:List Pc},(∀p∈l,PcB p)→(lnP l).length≤54*l.length
  | [],_=>by simp [lnP]
  | p :: l,h=>by
    have hp:=h p (by simp)
    have h1:=lnL_len (w:=pieceL) (l:=flP (pcX p)) fun n hn=>by have:=pcX_small hp n hn;omega
    have h2:=lnP_len (l:=l) fun q hq=>h q (by simp [hq])
    have h3:(flP (pcX p)).length≤12:=by
      rw [fl_len]
      have:=hp.l6
      unfold pcX
      simp;omega
    have h4:pieceL.length=5:=rfl
    simp only [lnP,List.flatMap_cons,List.length_append,List.length_cons,List.length_nil] at h2 ⊢
    omega
theorem smT_small {s:Sm}(h:SmB s):∀n∈smT s,n≤999:=by
  obtain ⟨h1,h2,h3,h4⟩:=h
  intro n hn
  simp only [smT,List.mem_cons,List.not_mem_nil,or_false] at hn
  rcases hn with rfl | rfl | rfl | rfl<;>omega
theorem lnS_len:∀{l:List Sm},(∀s∈l,SmB s)→(lnS l).length≤21*l.length
  | [],_=>by simp [lnS]
  | s :: l,h=>by
    have h1:=lnL_len (w:=seamL) (l:=smT s) (smT_small (h s (by simp)))
    have h2:=lnS_len (l:=l) fun q hq=>h q (by simp [hq])
    have h3:(smT s).length=4:=rfl
    have h4:seamL.length=4:=rfl
    simp only [lnS,List.flatMap_cons,List.length_append,List.length_cons,List.length_nil] at h2 ⊢
    omega
theorem lnP_next {l:List Pc}{i:Nat}(hi:i<l.length):lnP (l.take (i+1))=lnP (l.take i)++(lnL pieceL (flP (pcX (l.getD i default)))++[10]):=by
  rw [take_nextP hi];simp [lnP]
theorem lnS_next {l:List Sm}{i:Nat}(hi:i<l.length):lnS (l.take (i+1))=lnS (l.take i)++(lnL seamL (smT (l.getD i default))++[10]):=by
  have e:l.take (i+1)=l.take i++[l.getD i default]:=by
    rw [List.take_add_one,List.getElem?_eq_getElem hi];simp [List.getD_eq_getElem?_getD,hi]
  rw [e];simp [lnS]
def txK (c:Cp):ByteArray:=if capE c=0 then bA (fmtK c) else ⟨#[]⟩
section
variable {lim:Nat}{H:Hp}{K:V→Hp→Prop}{v d p u:V}
theorem line_t {w:List UInt8}{l:List Int}(hg:HX glHp H)(hv:SlV H v l)(hl:∀x∈l,0≤x∧x≤999)(hlen:l.length≤100)(hw:w.length≤10)(hlim:lim≤H.length)(hK:∀H',HX H H'→K (.str (bA (lnL w (toN l)++[10]))) H'):VCall tbl lim 17 [.str (bA w),v] H K:=by
  refine VCall_fn tbl_at17 rfl ?_
  obtain ⟨B0,hB0⟩:∃B,B=([32]:List UInt8):=⟨_,rfl⟩
  obtain ⟨E0,hE0⟩:∃B,B=([10]:List UInt8):=⟨_,rfl⟩
  have s1:(⟨#[32]⟩:ByteArray)=bA B0:=by rw [hB0];rfl
  have s2:(⟨#[10]⟩:ByteArray)=bA E0:=by rw [hE0];rfl
  have n1:B0.length=1:=by rw [hB0];rfl
  have n2:E0.length=1:=by rw [hE0];rfl
  rw [←hE0] at hK
  simp [vf17,hv.stor,hv.len]
  refine wLoop_up l.length (fun i fr L H'=>(fr 0=.str (bA (lnL w (toN (l.take i))))∧fr 7=v∧fr 8=.int .i64 (l.length:Int)∧fr 9=.int .i64 (i:Int))∧L=[]∧HX H H'∧i≤l.length) ⟨⟨by simp [lnL,toN,nums],by simp,by simp,by simp⟩,rfl,.refl,by omega⟩ ?_
  rintro i hi fr L H1 ⟨⟨f0,f7,f8,f9⟩,rfl,x1,hle⟩
  have l1:=x1.len
  have hv1:=hv.mono x1
  have hln:=lnL_len (w:=w) (toN_small hl (i:=i))
  have htl:(toN (l.take i)).length≤100:=by simp [toN];omega
  by_cases hp:i<l.length
  · have hp':((i:Int)<(l.length:Int))=True:=eq_true (by omega)
    have hb:=hl (l.getD i 0) (by rw [List.getD_eq_getElem?_getD,List.getElem?_eq_getElem hp];exact List.getElem_mem hp)
    obtain ⟨n,hn⟩:∃n:Nat,l.getD i 0=(n:Int):=⟨(l.getD i 0).toNat,by omega⟩
    have hnt:(l.getD i 0).toNat=n:=by omega
    have hnx:=nums_take (l:=l) (i:=i) hp
    rw [hnt] at hnx
    have ldn:=ddl (u:=n) (by omega)
    have had:=hv1.addr (i:=(i:Int)) ⟨by omega,by omega⟩
    have hld:=hv1.load (i:=i) hp (L:=[])
    rw [hn] at hld
    have t1:=vadd_bA (l:=B0) (m:=Lib.decDigits n) (by omega)
    have t2:=vadd_bA (l:=lnL w (toN (l.take i))) (m:=B0++Lib.decDigits n) (by simp;omega)
    have e2:lnL w (toN (l.take i))++(B0++Lib.decDigits n)=lnL w (toN (l.take (i+1))):=by unfold lnL;rw [hnx,hB0];simp
    rw [e2] at t2
    obtain ⟨Dn,hDn⟩:∃X,X=Lib.decDigits n:=⟨_,rfl⟩
    rw [←hDn] at t1 t2
    clear hnx e2
    generalize B0++Dn=B1 at t1 t2
    generalize lnL w (toN (l.take i))=T0 at t2 f0
    generalize hT1:lnL w (toN (l.take (i+1)))=T1 at t2
    simp (disch:=omega) [f0,f7,f8,f9,hp',had,hld,wrap_i64]
    refine itoa_t (n:=n) (hg.trans x1) (by first | exact Nat.le_refl _ | omega) (by omega) fun H2 x2 => ?_
    rw [←hDn]
    simp (disch:=omega) [f0,f7,f8,f9,s1,t1,t2,wrap_i64]
    exact ⟨hp,x1.trans x2,hp⟩
  have hp':((i:Int)<(l.length:Int))=False:=eq_false (by omega)
  have hi2:i=l.length:=by omega
  subst hi2
  rw [List.take_length] at f0 hln htl
  have t1:=vadd_bA (l:=lnL w (toN l)) (m:=E0) (by omega)
  simp [f0,f7,f8,f9,hp',s2,t1]
  exact hK H1 x1
theorem nums2_t {l:List Int}(hv:SlV H v l)(hl:∀x∈l,0≤x∧x≤999)(hlen:l.length≤100)(hK:K (.str (bA (nums 32 (toN l)))) H):VCall tbl lim 19 [v] H K:=by
  refine VCall_fn tbl_at19 rfl ?_
  obtain ⟨B0,hB0⟩:∃B,B=([32]:List UInt8):=⟨_,rfl⟩
  have s1:(⟨#[32]⟩:ByteArray)=bA B0:=by rw [hB0];rfl
  have n1:B0.length=1:=by rw [hB0];rfl
  have s0:(⟨#[]⟩:ByteArray)=bA []:=rfl
  simp [vf19,hv.stor]
  refine wLoop_up l.length (fun i fr L H'=>(fr 3=.str (bA (nums 32 (toN (l.take i))))∧fr 0=v∧fr 4=.int .i64 (i:Int))∧L=[]∧H'=H∧i≤l.length) ⟨⟨by simp [toN,nums,s0],by simp,by simp⟩,rfl,rfl,by omega⟩ ?_
  rintro i hi fr L H1 ⟨⟨f3,f0,f4⟩,rfl,rfl,hle⟩
  have hln:=nums_lenS (c:=32) (toN_small hl (i:=i))
  have htl:(toN (l.take i)).length≤100:=by simp [toN];omega
  by_cases hp:i<l.length
  · have hp':((i:Int)<(l.length:Int))=True:=eq_true (by omega)
    have hb:=hl (l.getD i 0) (by rw [List.getD_eq_getElem?_getD,List.getElem?_eq_getElem hp];exact List.getElem_mem hp)
    obtain ⟨n,hn⟩:∃n:Nat,l.getD i 0=(n:Int):=⟨(l.getD i 0).toNat,by omega⟩
    have hnt:(l.getD i 0).toNat=n:=by omega
    have hnx:=nums_take (l:=l) (i:=i) hp
    rw [hnt] at hnx
    have ldn:=ddl (u:=n) (by omega)
    have had:=hv.addr (i:=(i:Int)) ⟨by omega,by omega⟩
    have hld:=hv.load (i:=i) hp (L:=[])
    rw [hn] at hld
    have t1:=vadd_bA (l:=B0) (m:=Lib.decDigits n) (by omega)
    have t2:=vadd_bA (l:=nums 32 (toN (l.take i))) (m:=B0++Lib.decDigits n) (by simp;omega)
    have e2:nums 32 (toN (l.take i))++(B0++Lib.decDigits n)=nums 32 (toN (l.take (i+1))):=by rw [hnx,hB0];simp
    rw [e2] at t2
    obtain ⟨Dn,hDn⟩:∃X,X=Lib.decDigits n:=⟨_,rfl⟩
    rw [←hDn] at t1 t2
    clear hnx e2
    generalize B0++Dn=B1 at t1 t2
    generalize nums 32 (toN (l.take i))=T0 at t2 f3
    generalize hT1:nums 32 (toN (l.take (i+1)))=T1 at t2
    simp (disch:=omega) [f0,f3,f4,hp',hv.len,had,hld,wrap_i64]
    refine digits_r n (by omega) ?_
    rw [←hDn]
    simp (disch:=omega) [f0,f3,f4,s1,t1,t2,wrap_i64]
    exact ⟨hp,hp⟩
  have hp':((i:Int)<(l.length:Int))=False:=eq_false (by omega)
  have hi2:i=l.length:=by omega
  subst hi2
  rw [List.take_length] at f3
  simp [f0,f3,f4,hp',hv.len]
  exact hK
end
end Go.Proofs.YtgjlhdggllakbaaGreatDoor.Vm
namespace Go.Proofs.YtgjlhdggllakbaaGreatDoor.Vm
open Go
set_option maxRecDepth 100000
set_option maxHeartbeats 1000000
set_option linter.unusedSimpArgs false
set_option linter.unusedVariables false
attribute [-simp] List.getD_eq_getElem?_getD
theorem sE:(⟨#[101,97,115,101]⟩:ByteArray)=bA easeL:=Eq.trans rfl rfl
theorem sP:(⟨#[112,105,101,99,101]⟩:ByteArray)=bA pieceL:=Eq.trans rfl rfl
theorem sS:(⟨#[115,101,97,109]⟩:ByteArray)=bA seamL:=Eq.trans rfl rfl
theorem sN:(⟨#[10]⟩:ByteArray)=bA [10]:=Eq.trans rfl rfl
theorem toN_app {l m:List Int}:toN (l++m)=toN l++toN m:=by simp [toN]
theorem getP {P:List Pc}{i:Nat}(hi:i<P.length):P.getD i default∈P:=by
  simp [List.getD_eq_getElem?_getD,hi]
theorem getS {S:List Sm}{i:Nat}(hi:i<S.length):S.getD i default∈S:=by
  simp [List.getD_eq_getElem?_getD,hi]
theorem two_bd {p:Pc}(h:PcB p){i:Nat}(hi:i<p.s.length):∀x∈[p.s.getD i 0,p.a.getD i 0],0≤x∧x≤999:=by
  intro x hx
  have hl:=h.len
  have h1:=h.s (p.s.getD i 0) (by rw [List.getD_eq_getElem?_getD,List.getElem?_eq_getElem hi];exact List.getElem_mem hi)
  have h2:=h.a (p.a.getD i 0) (by rw [List.getD_eq_getElem?_getD,List.getElem?_eq_getElem (by omega)];exact List.getElem_mem (by omega))
  simp only [List.mem_cons,List.not_mem_nil,or_false] at hx
  rcases hx with rfl | rfl<;>omega
section
variable {lim:Nat}{H:Hp}{K:V→Hp→Prop}{v d p u:V}{ws:List V}{c:Cp}
theorem surf_Format (hc:CapV H ws c)(hb:c.S.length≤10000)(hg:HX glHp H)(hlim:lim≤H.length)(hK:∀H',HX H H'→K (.tup [.str (txK c),.int .i64 (capE c)]) H'):VCall tbl lim 7 [.agg ws] H K:=by
  obtain ⟨pv,sv,ps,rfl,hp,hs,z1,z2,z3,z4⟩:=hc.form
  refine VCall_fn tbl_at7 rfl ?_
  simp [vf7,z1,z2,z3,z4,rdA3]
  refine surf_Validate hc (by omega) hlim fun H1 x1 => ?_
  replace x1:HX H H1:=x1
  have l1:=x1.len
  by_cases he:capE c=0
  case neg =>
    simp [he]
    have:=hK H1 x1
    rw [txK,if_neg he] at this
    exact this
  have hK2:=hK
  rw [txK,if_pos he,he] at hK2
  have hok:=capE_ok.1 he
  have hee:=hok.e
  have hnp:=hok.np
  have hpb:=hok.pcB
  have hsb:=hok.smB
  obtain ⟨P,S,e⟩:=c
  simp only at hp hs hb hee hnp hpb hsb he hK2 ⊢
  simp [he,z1,z2,z3,z4,rd0,rd1',rd2',sE]
  refine line_t (w:=easeL) (l:=[e]) ((hg.trans x1).trans HX.push) (.lit (own:=true) (l:=[e]) List.getElem?_concat_length rfl) (by simp;omega) (by simp) (by decide) (by simp;omega) fun H2 x2 => ?_
  replace x2:HX H1 H2:=HX.trans ⟨_,rfl⟩ x2
  have l2:=x2.len
  have x12:=x1.trans x2
  obtain ⟨T0,hT0⟩:∃T,T=lnL easeL (toN [e])++[10]:=⟨_,rfl⟩
  have hT0l:T0.length≤20:=by
    have:=lnL_len (w:=easeL) (l:=toN [e]) (by simp [toN];omega)
    have e4:easeL.length=4:=rfl
    rw [hT0];simp [toN] at this ⊢;omega
  have hfin:fmtK ⟨P,S,e⟩=T0++lnP P++lnS S:=by rw [fmtK_eq,hT0];rfl
  rw [hfin] at hK2
  rw [←hT0]
  have hPl:∀i,(lnP (P.take i)).length≤500:=fun i=>by
    have:=lnP_len (l:=P.take i) fun q hq=>hpb q (List.mem_of_mem_take hq)
    have:(P.take i).length≤8:=by simp;omega
    omega
  have hSl:∀i,(lnS (S.take i)).length≤210000:=fun i=>by
    have:=lnS_len (l:=S.take i) fun q hq=>hsb q (List.mem_of_mem_take hq)
    have:(S.take i).length≤10000:=by simp;omega
    omega
  simp [z1,z2,z3,z4,rd0,rd1',rd2',hp.vlen]
  refine wLoop_up P.length (fun i fr L H'=>∃X,(fr 1=.lp 0 0∧fr 22=pv∧fr 23=.int .i64 (P.length:Int)∧fr 24=.int .i64 (i:Int)∧fr 5=.str (bA (T0++lnP (P.take i))))∧L=[pv,sv,.int .i64 e] :: X∧HX H2 H'∧i≤P.length) ⟨[],⟨by simp,by simp,by simp,by simp,by simp [lnP]⟩,rfl,.refl,by omega⟩ ?_
  rintro i hi fr L H3 ⟨X,⟨f1,f22,f23,f24,f5⟩,rfl,x3,hle⟩
  have l3:=x3.len
  have x13:=x12.trans x3
  have hp3:=hp.mono x13
  have hs3:=hs.mono x13
  by_cases hpp:i<P.length
  · have hp':((i:Int)<(P.length:Int))=True:=eq_true (by omega)
    obtain ⟨ha,hb2⟩:=hp3.at' i hpp
    have had:=hp3.at hpp
    have hld:=hp3.ld2 hpp
    have hpcB:=hpb _ (getP hpp)
    have hnx:=lnP_next hpp
    obtain ⟨pp,hpp2⟩:∃x,x=P.getD i default:=⟨_,rfl⟩
    rw [←hpp2] at ha hb2 hpcB hnx
    obtain ⟨a,hav⟩:∃a,a=(ps.getD i default).1:=⟨_,rfl⟩
    obtain ⟨b,hbv⟩:∃a,a=(ps.getD i default).2:=⟨_,rfl⟩
    rw [←hav,←hbv] at hld
    rw [←hav] at ha
    rw [←hbv] at hb2
    have hl6:=hpcB.l6
    have hll:=hpcB.len
    simp (disch:=omega) [f1,f22,f23,f24,f5,hp',had,hld,lastO,lastS,ha.stor,ha.one,hb2.stor,hb2.one,spl2,rd0,rd1',ha.len]
    refine wLoop_up pp.s.length (fun j fr L H'=>∃u,(fr 1=.lp 0 0∧fr 22=pv∧fr 23=.int .i64 (P.length:Int)∧fr 24=.int .i64 (i:Int)∧fr 5=.str (bA (T0++lnP (P.take i)))∧fr 7=.lp (X.length+1) 0∧fr 8=u∧fr 30=.int .i64 (pp.s.length:Int)∧fr 31=.int .i64 (j:Int))∧L=[pv,sv,.int .i64 e] :: (X++[[a,b]])∧HX H3 H'∧OwnV H3.length H' u (altP pp j)∧j≤pp.s.length) ⟨.snil,⟨by simp [f1],by simp [f22],by simp [f23],by simp [f24],by simp [f5],by simp,by simp,by simp,by simp⟩,rfl,.refl,.nil,by omega⟩ ?_
    clear f1 f22 f23 f24 f5
    rintro j hj fr2 L2 H4 ⟨u,⟨f1,f22,f23,f24,f5,f7,f8,f30,f31⟩,rfl,x4,hu,hle2⟩
    have l4:=x4.len
    by_cases hj2:j<pp.s.length
    · have hj':((j:Int)<(pp.s.length:Int))=True:=eq_true (by omega)
      have ha4:=ha.mono x4
      have hb4:=hb2.mono x4
      have a1:=ha4.addr (i:=(j:Int)) ⟨by omega,by omega⟩
      have a2:=hb4.addr (i:=(j:Int)) ⟨by omega,by omega⟩
      simp only [Int.toNat_natCast] at a1 a2
      have d1:=fun L=>ha4.load (i:=j) hj2 (L:=L)
      have d2:=fun L=>hb4.load (i:=j) (by omega) (L:=L)
      have hal:=alt_len (p:=pp) j
      have hr:SlV (H4++[.row [.int .i64 (pp.s.getD j 0),.int .i64 (pp.a.getD j 0)] true]) (.sl H4.length 0 2 1) [pp.s.getD j 0,pp.a.getD j 0]:=.lit (own:=true) (l:=[pp.s.getD j 0,pp.a.getD j 0]) List.getElem?_concat_length rfl
      obtain ⟨u',H5,c1,c2,c3,c4⟩:=vapp_own (lim:=lim) (n:=H3.length) (hu.mono ⟨_,rfl⟩) hr (by omega) (by simp;omega) ⟨by omega,by simp⟩
      have hnx2:=alt_next hll hj2
      rw [←hnx2] at c2
      simp (disch:=omega) [f1,f22,f23,f24,f5,f7,f8,f30,f31,hj',a1,a2,d1,d2,lastO,rd0,rd1',c1,wrap_i64]
      exact ⟨hj2,c3 H3 (x4.trans ⟨_,rfl⟩) (Nat.le_refl _),c2,hj2⟩
    have hj':((j:Int)<(pp.s.length:Int))=False:=eq_false (by omega)
    have hj3:j=pp.s.length:=by omega
    subst hj3
    have hal:=alt_len (p:=pp) pp.s.length
    simp (disch:=omega) [f1,f22,f23,f24,f5,f7,f8,f30,f31,hj',sP,hu.sl.stor]
    refine line_t (w:=pieceL) (l:=altP pp pp.s.length) (((hg.trans x13).trans x4)) hu.sl (alt_bd hpcB) (by omega) (by decide) (by omega) fun H5 x5 => ?_
    replace x5:HX H4 H5:=x5
    have l5:=x5.len
    rw [alt_all hll]
    have hPi:=hPl i
    have hPi2:=hPl (i+1)
    rw [hnx] at hPi2
    have t1:=vadd_bA (l:=T0++lnP (P.take i)) (m:=lnL pieceL (flP (pcX pp))++[10]) (by simp at hPi2 ⊢;omega)
    rw [List.append_assoc,←hnx] at t1
    generalize lnL pieceL (flP (pcX pp))++[10]=Ln at t1
    generalize T0++lnP (P.take i)=Ti at t1 f5
    generalize hTn:T0++lnP (P.take (i+1))=Tn at t1
    simp (disch:=omega) [f1,f22,f23,f24,f5,f7,f8,f30,f31,t1,wrap_i64]
    exact ⟨hpp,(x3.trans x4).trans x5,hpp⟩
  have hp':((i:Int)<(P.length:Int))=False:=eq_false (by omega)
  have hi2:i=P.length:=by omega
  subst hi2
  rw [List.take_length] at f5
  obtain ⟨T1,hT1⟩:∃T,T=T0++lnP P:=⟨_,rfl⟩
  have hT1l:T1.length≤600:=by
    have:=hPl P.length
    rw [List.take_length] at this
    rw [hT1];simp;omega
  rw [←hT1] at f5 hK2
  simp (disch:=omega) [f1,f22,f23,f24,f5,hp',rd0,rd1',rd2',hs3.len]
  refine wLoop_up S.length (fun i fr L H'=>∃X,(fr 54=sv∧fr 55=.int .i64 (S.length:Int)∧fr 56=.int .i64 (i:Int)∧fr 5=.str (bA (T1++lnS (S.take i))))∧L=[pv,sv,.int .i64 e] :: X∧HX H3 H'∧i≤S.length) ⟨X,⟨by simp,by simp,by simp,by simp [lnS,f5]⟩,rfl,.refl,by omega⟩ ?_
  clear f1 f22 f23 f24 f5 X
  rintro i hi fr3 L H4 ⟨X,⟨f54,f55,f56,f5⟩,rfl,x4,hle2⟩
  have l4:=x4.len
  have hs4:=hs3.mono x4
  by_cases hpp:i<S.length
  · have hp':((i:Int)<(S.length:Int))=True:=eq_true (by omega)
    have had:=hs4.addr (i:=(i:Int)) ⟨by omega,by omega⟩
    simp only [Int.toNat_natCast] at had
    have hld:∀L,vload (some 4) L H4 (ept 4 sv i)=some (.agg [.int .i64 (S.getD i default).A,.int .i64 (S.getD i default).I,.int .i64 (S.getD i default).B,.int .i64 (S.getD i default).J]):=fun L=>hs4.load hpp
    have hsB:=hsb _ (getS hpp)
    have hnx:=lnS_next hpp
    have hSi:=hSl i
    have hSi2:=hSl (i+1)
    rw [hnx] at hSi2
    obtain ⟨ss,hss⟩:∃x,x=S.getD i default:=⟨_,rfl⟩
    rw [←hss] at hld hsB hnx hSi2
    have hbd:∀x∈[ss.A,ss.I,ss.B,ss.J],0≤x∧x≤999:=by
      obtain ⟨g1,g2,g3,g4⟩:=hsB
      intro x hx
      simp only [List.mem_cons,List.not_mem_nil,or_false] at hx
      rcases hx with rfl | rfl | rfl | rfl<;>omega
    have t1:=vadd_bA (l:=T1++lnS (S.take i)) (m:=lnL seamL (smT ss)++[10]) (by simp at hSi2 ⊢;omega)
    rw [List.append_assoc,←hnx] at t1
    have eT:toN [ss.A,ss.I,ss.B,ss.J]=smT ss:=rfl
    generalize hLn:lnL seamL (smT ss)++[10]=Ln at t1
    generalize T1++lnS (S.take i)=Ti at t1 f5
    generalize hTn:T1++lnS (S.take (i+1))=Tn at t1
    simp (disch:=omega) [f54,f55,f56,f5,hp',had,hld,lastO,lastS,zs4,spl4,splice,rd0,rd1',rd2',rd3',sS]
    refine line_t (w:=seamL) (l:=[ss.A,ss.I,ss.B,ss.J]) (((hg.trans x13).trans x4).trans HX.push) (.lit (own:=true) (l:=[ss.A,ss.I,ss.B,ss.J]) List.getElem?_concat_length rfl) hbd (by simp) (by decide) (by simp;omega) fun H5 x5 => ?_
    replace x5:HX H4 H5:=HX.trans ⟨_,rfl⟩ x5
    rw [eT,hLn]
    simp (disch:=omega) [f54,f55,f56,f5,t1,wrap_i64]
    exact ⟨hpp,x4.trans x5,hpp⟩
  have hp':((i:Int)<(S.length:Int))=False:=eq_false (by omega)
  have hi2:i=S.length:=by omega
  subst hi2
  rw [List.take_length] at f5
  simp [f54,f55,f56,f5,hp']
  exact hK2 H4 (x13.trans x4)
end
end Go.Proofs.YtgjlhdggllakbaaGreatDoor.Vm
namespace Go.Proofs.YtgjlhdggllakbaaGreatDoor.Vm
open Go
set_option maxRecDepth 100000
set_option maxHeartbeats 1000000
set_option linter.unusedSimpArgs false
set_option linter.unusedVariables false
attribute [-simp] List.getD_eq_getElem?_getD
section
variable {lim:Nat}{H:Hp}{K:V→Hp→Prop}{v d p u:V}{ws:List V}{c:Cp}
theorem r02_Format (hc:CapV H ws c) (hb:c.P.length≤1000000∧c.S.length≤10000∧∀q,q<c.P.length→(c.P.getD q default).s.length≤100000) (hlim:lim≤H.length) (hK:∀H',HX H H'→K (.tup [.str (txK c),.int .i64 (capE c)]) H'):VCall tbl lim 8 [.agg ws] H K:=by
  obtain ⟨pv,sv,ps,rfl,hp,hs,z1,z2,z3,z4⟩:=hc.form
  refine VCall_fn tbl_at8 rfl ?_
  simp [vf8,z1,z2,z3,z4,rdA3]
  refine r02_Validate hc ⟨hb.1,by omega,hb.2.2⟩ ?_
  by_cases he:capE c=0
  case neg =>
    simp [he]
    have:=hK H .refl
    rw [txK,if_neg he] at this
    exact this
  have hK2:=hK
  rw [txK,if_pos he,he] at hK2
  have hok:=capE_ok.1 he
  have hee:=hok.e
  have hnp:=hok.np
  have hpb:=hok.pcB
  have hsb:=hok.smB
  obtain ⟨P,S,e⟩:=c
  simp only at hp hs hb hee hnp hpb hsb he hK2 ⊢
  obtain ⟨N0,hN0⟩:∃N,N=([10]:List UInt8):=⟨_,rfl⟩
  have sN:(⟨#[10]⟩:ByteArray)=bA N0:=by rw [hN0];rfl
  have nN:N0.length=1:=by rw [hN0];rfl
  have lE:easeL.length=4:=rfl
  have lP:pieceL.length=5:=rfl
  have lS:seamL.length=4:=rfl
  simp [he,z1,z2,z3,z4,rd0,rd1',rd2',sE]
  refine nums2_t (l:=[e]) (.lit (own:=true) (l:=[e]) List.getElem?_concat_length rfl) (by simp;omega) (by simp) ?_
  have x1:HX H (H++[.row [.int .i64 e] true]):=HX.push
  have l1:=x1.len
  generalize H++[Blk.row [V.int .i64 e] true]=H2 at *
  have hnl:=nums_lenS (c:=32) (l:=toN [e]) (by simp [toN];omega)
  simp only [toN,List.map_cons,List.map_nil,List.length_cons,List.length_nil] at hnl
  have t1:=vadd_bA (l:=easeL) (m:=nums 32 (toN [e])) (by simp only [toN,List.map_cons,List.map_nil];omega)
  have t2:=vadd_bA (l:=easeL++nums 32 (toN [e])) (m:=N0) (by simp [toN] at hnl ⊢;omega)
  obtain ⟨T0,hT0⟩:∃T,T=easeL++nums 32 (toN [e])++N0:=⟨_,rfl⟩
  have hT0l:T0.length≤20:=by rw [hT0];simp [toN] at hnl ⊢;omega
  have hfin:fmtK ⟨P,S,e⟩=T0++lnP P++lnS S:=by rw [fmtK_eq,hT0,hN0];rfl
  rw [hfin] at hK2
  rw [←hT0] at t2
  generalize easeL++nums 32 (toN [e])=T00 at t1 t2
  generalize nums 32 (toN [e])=Nn at t1
  have hPl:∀i,(lnP (P.take i)).length≤500:=fun i=>by
    have:=lnP_len (l:=P.take i) fun q hq=>hpb q (List.mem_of_mem_take hq)
    have:(P.take i).length≤8:=by simp;omega
    omega
  have hSl:∀i,(lnS (S.take i)).length≤210000:=fun i=>by
    have:=lnS_len (l:=S.take i) fun q hq=>hsb q (List.mem_of_mem_take hq)
    have:(S.take i).length≤10000:=by simp;omega
    omega
  simp [z1,z2,z3,z4,rd0,rd1',rd2',t1,sN,t2]
  refine wLoop_up P.length (fun i fr L H'=>(fr 1=.lp 0 0∧fr 6=.int .i64 (i:Int)∧fr 5=.str (bA (T0++lnP (P.take i))))∧L=[[pv,sv,.int .i64 e]]∧HX H2 H'∧i≤P.length) ⟨⟨by simp,by simp,by simp [lnP]⟩,rfl,.refl,by omega⟩ ?_
  rintro i hi fr L H3 ⟨⟨f1,f6,f5⟩,rfl,x3,hle⟩
  have l3:=x3.len
  have x13:=x1.trans x3
  have hp3:=hp.mono x13
  have hs3:=hs.mono x13
  by_cases hpp:i<P.length
  · have hp':((i:Int)<(P.length:Int))=True:=eq_true (by omega)
    obtain ⟨ha,hb2⟩:=hp3.at' i hpp
    have hpcB:=hpb _ (getP hpp)
    have hnx:=lnP_next hpp
    obtain ⟨pp,hpp2⟩:∃x,x=P.getD i default:=⟨_,rfl⟩
    rw [←hpp2] at ha hb2 hpcB hnx
    obtain ⟨a,hav⟩:∃a,a=(ps.getD i default).1:=⟨_,rfl⟩
    obtain ⟨b,hbv⟩:∃a,a=(ps.getD i default).2:=⟨_,rfl⟩
    rw [←hav] at ha
    rw [←hbv] at hb2
    have hl6:=hpcB.l6
    have hll:=hpcB.len
    have hPi:=hPl i
    have hPi2:=hPl (i+1)
    obtain ⟨Ti,hTi⟩:∃T,T=T0++lnP (P.take i):=⟨_,rfl⟩
    have hTil:Ti.length≤600:=by rw [hTi];simp;omega
    rw [←hTi] at f5
    have hnx2:T0++lnP (P.take (i+1))=Ti++pieceL++nums 32 (toN (altP pp pp.s.length))++N0:=by rw [hnx,hTi,hN0,alt_all hll];simp [lnL]
    have t3:=vadd_bA (l:=Ti) (m:=pieceL) (by omega)
    simp (disch:=omega) [f1,f6,f5,hp3.vlen,hp',rd0,sP,t3]
    refine wLoop_up pp.s.length (fun j fr L H'=>(fr 1=.lp 0 0∧fr 6=.int .i64 (i:Int)∧fr 5=.str (bA (Ti++pieceL++nums 32 (toN (altP pp j))))∧fr 7=.int .i64 (j:Int))∧L=[[pv,sv,.int .i64 e]]∧HX H3 H'∧j≤pp.s.length) ⟨⟨by simp [f1],by simp [f6],by simp [nums,toN,altP],by simp⟩,rfl,.refl,by omega⟩ ?_
    clear f1 f6 f5
    rintro j hj fr2 L2 H4 ⟨⟨f1,f6,f5,f7⟩,rfl,x4,hle2⟩
    have l4:=x4.len
    have hp4:=hp3.mono x4
    have had:=hp4.at hpp
    have hfa:=hp4.fa hpp
    have q0:=hp4.ld0 hpp
    have q1:=hp4.ld1 hpp
    rw [←hav] at q0
    rw [←hbv] at q1
    have ha4:=ha.mono x4
    have hb4:=hb2.mono x4
    by_cases hj2:j<pp.s.length
    · have hj':((j:Int)<(pp.s.length:Int))=True:=eq_true (by omega)
      have a1:=ha4.addr (i:=(j:Int)) ⟨by omega,by omega⟩
      have a2:=hb4.addr (i:=(j:Int)) ⟨by omega,by omega⟩
      simp only [Int.toNat_natCast] at a1 a2
      have d1:=fun L=>ha4.load (i:=j) hj2 (L:=L)
      have d2:=fun L=>hb4.load (i:=j) (by omega) (L:=L)
      have hal:=alt_len (p:=pp) j
      have han:=alt_next hll hj2
      have hbd:=two_bd hpcB hj2
      have hnl:=nums_lenS (c:=32) (l:=toN (altP pp j)) (fun n hn=>by
        obtain ⟨x,hx,rfl⟩:=List.mem_map.1 hn
        have:=alt_bd hpcB x hx
        omega)
      have hnl2:=nums_lenS (c:=32) (l:=toN [pp.s.getD j 0,pp.a.getD j 0]) (fun n hn=>by
        obtain ⟨x,hx,rfl⟩:=List.mem_map.1 hn
        have:=hbd x hx
        omega)
      have e1:(toN (altP pp j)).length=(altP pp j).length:=by simp [toN]
      have e2:(toN [pp.s.getD j 0,pp.a.getD j 0]).length=2:=rfl
      have t4:=vadd_bA (l:=Ti++pieceL++nums 32 (toN (altP pp j))) (m:=nums 32 (toN [pp.s.getD j 0,pp.a.getD j 0])) (by simp;omega)
      have e3:Ti++pieceL++nums 32 (toN (altP pp j))++nums 32 (toN [pp.s.getD j 0,pp.a.getD j 0])=Ti++pieceL++nums 32 (toN (altP pp (j+1))):=by
        rw [han,toN_app,nums_app,List.append_assoc (Ti++pieceL)]
      rw [e3] at t4
      clear e3
      generalize Ti++pieceL++nums 32 (toN (altP pp j))=Tj at t4 f5
      generalize hTn:Ti++pieceL++nums 32 (toN (altP pp (j+1)))=Tn at t4
      simp (disch:=omega) [f1,f6,f5,f7,had,hfa,q0,q1,ha4.len,hj',a1,a2,d1,d2,rd0]
      refine nums2_t (l:=[pp.s.getD j 0,pp.a.getD j 0]) (.lit (own:=true) (l:=[pp.s.getD j 0,pp.a.getD j 0]) List.getElem?_concat_length rfl) hbd (by simp) ?_
      simp (disch:=omega) [f1,f6,f5,f7,t4,wrap_i64]
      exact ⟨hj2,x4.trans HX.push,hj2⟩
    have hj':((j:Int)<(pp.s.length:Int))=False:=eq_false (by omega)
    have hj3:j=pp.s.length:=by omega
    subst hj3
    have hal:=alt_len (p:=pp) pp.s.length
    have hnl:=nums_lenS (c:=32) (l:=toN (altP pp pp.s.length)) (fun n hn=>by
      obtain ⟨x,hx,rfl⟩:=List.mem_map.1 hn
      have:=alt_bd hpcB x hx
      omega)
    have e1:(toN (altP pp pp.s.length)).length=(altP pp pp.s.length).length:=by simp [toN]
    have t4:=vadd_bA (l:=Ti++pieceL++nums 32 (toN (altP pp pp.s.length))) (m:=N0) (by simp;omega)
    rw [←hnx2] at t4
    generalize Ti++pieceL++nums 32 (toN (altP pp pp.s.length))=Tj at t4 f5
    generalize hTn:T0++lnP (P.take (i+1))=Tn at t4
    simp (disch:=omega) [f1,f6,f5,f7,had,hfa,q0,ha4.len,hj',rd0,sN,t4,wrap_i64]
    exact ⟨hpp,x3.trans x4,hpp⟩
  have hp':((i:Int)<(P.length:Int))=False:=eq_false (by omega)
  have hi2:i=P.length:=by omega
  subst hi2
  rw [List.take_length] at f5
  obtain ⟨T1,hT1⟩:∃T,T=T0++lnP P:=⟨_,rfl⟩
  have hT1l:T1.length≤600:=by
    have:=hPl P.length
    rw [List.take_length] at this
    rw [hT1];simp;omega
  rw [←hT1] at f5 hK2
  simp (disch:=omega) [f1,f6,f5,hp3.vlen,hp',rd0]
  refine wLoop_up S.length (fun i fr L H'=>∃X,(fr 1=.lp 0 0∧fr 8=.int .i64 (i:Int)∧fr 5=.str (bA (T1++lnS (S.take i))))∧L=[pv,sv,.int .i64 e] :: X∧HX H3 H'∧i≤S.length) ⟨[],⟨by simp [f1],by simp,by simp [lnS,f5]⟩,rfl,.refl,by omega⟩ ?_
  clear f1 f6 f5
  rintro i hi fr3 L H4 ⟨X,⟨f1,f8,f5⟩,rfl,x4,hle2⟩
  have l4:=x4.len
  have hs4:=hs3.mono x4
  by_cases hpp:i<S.length
  · have hp':((i:Int)<(S.length:Int))=True:=eq_true (by omega)
    have had:=hs4.addr (i:=(i:Int)) ⟨by omega,by omega⟩
    simp only [Int.toNat_natCast] at had
    have hld:∀L,vload (some 4) L H4 (ept 4 sv i)=some (.agg [.int .i64 (S.getD i default).A,.int .i64 (S.getD i default).I,.int .i64 (S.getD i default).B,.int .i64 (S.getD i default).J]):=fun L=>hs4.load hpp
    have hsB:=hsb _ (getS hpp)
    have hnx:=lnS_next hpp
    have hSi:=hSl i
    have hSi2:=hSl (i+1)
    rw [hnx] at hSi2
    obtain ⟨ss,hss⟩:∃x,x=S.getD i default:=⟨_,rfl⟩
    rw [←hss] at hld hsB hnx hSi2
    have hbd:∀x∈[ss.A,ss.I,ss.B,ss.J],0≤x∧x≤999:=by
      obtain ⟨g1,g2,g3,g4⟩:=hsB
      intro x hx
      simp only [List.mem_cons,List.not_mem_nil,or_false] at hx
      rcases hx with rfl | rfl | rfl | rfl<;>omega
    have eT:toN [ss.A,ss.I,ss.B,ss.J]=smT ss:=rfl
    have hnl:=nums_lenS (c:=32) (smT_small hsB)
    have e4:(smT ss).length=4:=rfl
    have t5:=vadd_bA (l:=seamL) (m:=nums 32 (smT ss)) (by omega)
    have t6:=vadd_bA (l:=seamL++nums 32 (smT ss)) (m:=N0) (by simp;omega)
    have t7:=vadd_bA (l:=T1++lnS (S.take i)) (m:=seamL++nums 32 (smT ss)++N0) (by simp;omega)
    have hnx2:T1++lnS (S.take i)++(seamL++nums 32 (smT ss)++N0)=T1++lnS (S.take (i+1)):=by rw [hnx,hN0];simp [lnL]
    rw [hnx2] at t7
    clear hnx2 hnx hSi2
    generalize seamL++nums 32 (smT ss)++N0=B2 at t6 t7
    generalize seamL++nums 32 (smT ss)=B1 at t5 t6
    generalize T1++lnS (S.take i)=Ti at t7 f5
    generalize hTn:T1++lnS (S.take (i+1))=Tn at t7
    simp (disch:=omega) [f1,f8,f5,hs4.len,hp',had,hld,lastO,lastS,zs4,spl4,splice,rd0,rd1',rd2',rd3',sS]
    refine nums2_t (l:=[ss.A,ss.I,ss.B,ss.J]) (.lit (own:=true) (l:=[ss.A,ss.I,ss.B,ss.J]) List.getElem?_concat_length rfl) hbd (by simp) ?_
    rw [eT]
    simp (disch:=omega) [f1,f8,f5,t5,t6,sN,t7,wrap_i64]
    exact ⟨hpp,x4.trans HX.push,hpp⟩
  have hp':((i:Int)<(S.length:Int))=False:=eq_false (by omega)
  have hi2:i=S.length:=by omega
  subst hi2
  rw [List.take_length] at f5
  simp [f1,f8,f5,hp',hs4.len,rd0,rd1']
  exact hK2 H4 (x13.trans x4)
end
end Go.Proofs.YtgjlhdggllakbaaGreatDoor.Vm
namespace Go.Proofs.YtgjlhdggllakbaaGreatDoor.Vm
open Go
set_option maxRecDepth 100000
set_option linter.unusedSimpArgs false
set_option linter.unusedVariables false
attribute [-simp] List.getD_eq_getElem?_getD
theorem atoi_v {H:Hp}{lim:Nat}{s:ByteArray}{K:V→Hp→Prop}(hg:HX glHp H)(hs:s.size≤281474976710656)
    (hK:∀H' ev,HX H H'→K (.tup [.int .i64 (atV s.data.toList),ev]) H'):VCall tbl lim 43 [.str s] H K:=by
  have hc:=chkE_of hg
  have hf:([V.str s]:List V).all flatV=true:=rfl
  rcases end3 s.data.toList with ⟨n,hq⟩ | hq | hq
  · have e:atV s.data.toList=n:=by unfold atV;rw [hq]
    refine VCall_prim (g:=pAtoi) (bs:=[]) tbl_at43 rfl rfl (v:=.tup [.int .i64 n,.inil]) ?_ (by rw [←e];exact hK _ _ ⟨_,rfl⟩)
    have hgg:gAtoi [.str s]=some (.int .i64 n,true):=by simp only [gAtoi,hs,if_true,hq]
    simp only [pAtoi,numP,hc,hf,hgg,Bool.and_self,if_true,flatV]
  · have e:atV s.data.toList=0:=by unfold atV;rw [hq]
    refine VCall_prim (g:=pAtoi) (bs:=[.dead]) tbl_at43 rfl rfl (v:=.tup [.int .i64 0,.iface teN (.ptr H.length 0)]) ?_ (by rw [←e];exact hK _ _ ⟨_,rfl⟩)
    have hgg:gAtoi [.str s]=some (.int .i64 0,false):=by simp only [gAtoi,hs,if_true,hq]
    simp only [pAtoi,numP,hc,hf,hgg,Bool.and_self,if_true,flatV,Bool.false_eq_true,if_false]
  · have e:atV s.data.toList=Lib.atoiSat s.data.toList:=by unfold atV;rw [hq]
    refine VCall_prim (g:=pAtoi) (bs:=[.dead]) tbl_at43 rfl rfl (v:=.tup [.int .i64 (Lib.atoiSat s.data.toList),.iface teN (.ptr H.length 0)]) ?_ (by rw [←e];exact hK _ _ ⟨_,rfl⟩)
    have hgg:gAtoi [.str s]=some (.int .i64 (Lib.atoiSat s.data.toList),false):=by simp only [gAtoi,hs,if_true,hq]
    simp only [pAtoi,numP,hc,hf,hgg,Bool.and_self,if_true,flatV,Bool.false_eq_true,if_false]
section
variable {lim:Nat}{H:Hp}{K:V→Hp→Prop}{v d p u:V}
theorem str_at {l:List (List UInt8)}(h:LstV strC H u (l.map bA)){i:Nat}{w:List UInt8}(hw:l[i]? = some w):(∀L,vload none L H (ept 1 u i)=some (.str (bA w)))∧viaddrS 1 u (.int .i64 (i:Int))=some (ept 1 u i):=by
  have hi:i<l.length:=(List.getElem?_eq_some_iff.1 hw).1
  have hl:(l.map bA).length=l.length:=by simp
  constructor
  · intro L
    rw [h.load1 (by omega)]
    have:(l.map bA).getD i default=bA w:=by rw [List.getD_eq_getElem?_getD,List.getElem?_map,hw];rfl
    rw [this];rfl
  · exact h.addr (i:=(i:Int)) ⟨by omega,by omega⟩
def uC:Cod UInt8 1:=⟨fun b=>[.int .u8 (b.toNat:Int)],fun _=>rfl⟩
theorem wds_min {c:UInt8}:∀l:List UInt8,1≤(wds c l).length
  | []=>by simp [wds]
  | b :: l=>by
    rw [wds]
    split
    · simp
    · split
      · simp
      · simp
theorem str_l {H X:Hp}{l:List (List UInt8)}:LstV strC (H++.row (strC.all (l.map bA)) true :: X) (.sl H.length 0 l.length 1) (l.map bA):=by
  have h0:(H++Blk.row (strC.all (l.map bA)) true :: X)[H.length]? = some (.row (strC.all (l.map bA)) true):=by rw [List.getElem?_append_right (Nat.le_refl _)];simp
  have:=LstV.sl (c:=strC) (l:=l.map bA) (off:=0) h0 (by rw [strC_all];simp) (by rw [strC_all];simp [List.take_of_length_le])
  simpa using this
end
end Go.Proofs.YtgjlhdggllakbaaGreatDoor.Vm
namespace Go.Proofs.YtgjlhdggllakbaaGreatDoor.Vm
open Go
set_option maxRecDepth 100000
set_option maxHeartbeats 1000000
set_option linter.unusedSimpArgs false
set_option linter.unusedVariables false
attribute [-simp] List.getD_eq_getElem?_getD
structure CapA (H:Hp)(ws:List V)(c:Cp):Prop where
  cap:CapV H ws c
theorem pick_pcs {H:Hp}:∀{ps:List (V×V)},(∀p∈ps,∃c:Pc,SlV H p.1 c.s∧SlV H p.2 c.a)→∃pcs:List Pc,ps.length=pcs.length∧∀i,i<pcs.length→SlV H (ps.getD i default).1 (pcs.getD i default).s∧SlV H (ps.getD i default).2 (pcs.getD i default).a
  | [],_=>⟨[],rfl,fun i hi=>by simp at hi⟩
  | p :: ps,h=>by
    obtain ⟨c,h1,h2⟩:=h p (by simp)
    obtain ⟨pcs,h3,h4⟩:=pick_pcs (ps:=ps) fun q hq=>h q (List.mem_cons_of_mem _ hq)
    refine ⟨c :: pcs,by simp [h3],fun i hi => ?_⟩
    cases i with
    | zero=>exact ⟨h1,h2⟩
    | succ i=>exact h4 i (by simpa using hi)
theorem cap_of {H:Hp}{ws:List V}{ds:List CD}(h:RepTs H [.sl [cInts,cInts],.sl [cInt,cInt,cInt,cInt],cInt] ws ds):∃c,CapA H ws c:=by
  obtain ⟨v0,u0,_,_,rfl,_,p0,q0⟩:=reps_cons h
  obtain ⟨v1,u1,_,_,rfl,_,p1,q1⟩:=reps_cons q0
  obtain ⟨v2,u2,_,_,rfl,_,p2,q2⟩:=reps_cons q1
  have e:=reps_nil q2
  subst e
  obtain ⟨n,rfl,_⟩:=int_of p2
  obtain ⟨l1,h1,hl,hall⟩:=lst_of (c:=pvC) rfl (fun z=>∃c:Pc,SlV H z.1 c.s∧SlV H z.2 c.a) (fun vs ds h=>by
    obtain ⟨v0,u0,_,_,rfl,_,p0,q0⟩:=reps_cons h
    obtain ⟨v1,u1,_,_,rfl,_,p1,q1⟩:=reps_cons q0
    have e:=reps_nil q1
    subst e
    obtain ⟨l0,g0,_,_⟩:=ints_of p0
    obtain ⟨l1,g1,_,_⟩:=ints_of p1
    exact ⟨(v0,v1),rfl,⟨l0,l1⟩,g0,g1⟩) p0
  obtain ⟨l2,h2,_,_⟩:=lst_of (c:=smC) rfl (fun z=>True) (fun vs ds h=>by
    obtain ⟨v0,u0,_,_,rfl,_,p0,q0⟩:=reps_cons h
    obtain ⟨v1,u1,_,_,rfl,_,p1,q1⟩:=reps_cons q0
    obtain ⟨v2,u2,_,_,rfl,_,p2,q2⟩:=reps_cons q1
    obtain ⟨v3,u3,_,_,rfl,_,p3,q3⟩:=reps_cons q2
    have e:=reps_nil q3
    subst e
    obtain ⟨n0,rfl,c0⟩:=int_of p0
    obtain ⟨n1,rfl,c1⟩:=int_of p1
    obtain ⟨n2,rfl,c2⟩:=int_of p2
    obtain ⟨n3,rfl,c3⟩:=int_of p3
    exact ⟨⟨n0,n1,n2,n3⟩,rfl,trivial⟩) p1
  obtain ⟨pcs,g1,g2⟩:=pick_pcs hall
  exact ⟨⟨pcs,l2,n⟩,⟨.mk ⟨h1,g1,g2⟩ h2⟩⟩
end Go.Proofs.YtgjlhdggllakbaaGreatDoor.Vm
namespace Go.Proofs.YtgjlhdggllakbaaGreatDoor.Vm
open Go
set_option maxRecDepth 100000
set_option maxHeartbeats 1000000
set_option linter.unusedSimpArgs false
set_option linter.unusedVariables false
attribute [-simp] List.getD_eq_getElem?_getD
theorem prs_two {x y:Int}:∀(k:Nat) {l:List Int},l.length=2*k→prs (l++[x,y])=((prs l).1++[x],(prs l).2++[y])
  | 0,l,h=>by
    have:l=[]:=List.eq_nil_of_length_eq_zero (by omega)
    subst this;rfl
  | k + 1,l,h=>by
    match l,h with
    | a :: b :: r,h =>
      have ih:=prs_two (x:=x) (y:=y) k (l:=r) (by simp at h;omega)
      show ((a :: (prs (r++[x,y])).1,b :: (prs (r++[x,y])).2):List Int×List Int)=_
      rw [ih];rfl
    | [a],h=>simp at h;omega
theorem prs_odd {x:Int}:∀(k:Nat) {l:List Int},l.length=2*k→prs (l++[x])=prs l
  | 0,l,h=>by
    have:l=[]:=List.eq_nil_of_length_eq_zero (by omega)
    subst this;rfl
  | k + 1,l,h=>by
    match l,h with
    | a :: b :: r,h =>
      have ih:=prs_odd (x:=x) k (l:=r) (by simp at h;omega)
      show ((a :: (prs (r++[x])).1,b :: (prs (r++[x])).2):List Int×List Int)=_
      rw [ih];rfl
    | [a],h=>simp at h;omega
theorem take_two {l:List Int}{k:Nat}(h:2*k+1<l.length):l.take (2*(k+1))=l.take (2*k)++[l.getD (2*k) 0,l.getD (2*k+1) 0]:=by
  rw [show 2*(k+1)=2*k+1+1 by omega,take_snoc h,take_snoc (show 2*k<l.length by omega)]
  simp
theorem prs_next {l:List Int}{k:Nat}(h:2*k+1<l.length):prs (l.take (2*(k+1)))=((prs (l.take (2*k))).1++[l.getD (2*k) 0],(prs (l.take (2*k))).2++[l.getD (2*k+1) 0]):=by
  rw [take_two h]
  exact prs_two k (by simp;omega)
theorem prs_len:∀(k:Nat) {l:List Int},l.length≤k→(prs l).1.length≤l.length∧(prs l).2.length≤l.length
  | 0,l,h=>by
    have:l=[]:=List.eq_nil_of_length_eq_zero (by omega)
    subst this;simp [prs]
  | k + 1,l,h=>by
    match l,h with
    | [],h=>simp [prs]
    | [a],h=>simp [prs]
    | a :: b :: r,h =>
      have ih:=prs_len k (l:=r) (by simp at h;omega)
      simp only [prs,List.length_cons]
      omega
theorem eqq_bA {W T:List UInt8}:vbin .eql (.str (bA W)) (.str (bA T))=some (.bool (decide (W=T))):=by
  simp only [vbin]
  rw [Lib.toList_data,Lib.toList_data,list_bA,list_bA]
  by_cases h:W=T
  · subst h;simp
  · simp [h]
def ApV (a b:V):Prop:=∀k o z y o' z' y',a=.sl k o z y→b=.sl k o' z' y'→False
section
variable {lim n:Nat}{H H':Hp}{K:V→Hp→Prop}{v d p u a b:V}{ws:List V}{c:Cp}{A B ns:List Int}
theorem ApV.symm (h:ApV a b):ApV b a:=fun k o z y o' z' y' h1 h2=>h _ _ _ _ _ _ _ h2 h1
theorem OwnV.keepV (h:OwnV n H v A)(hk:∀b o m z,v=.sl b o m z→H'[b]? = H[b]?):OwnV n H' v A:=by
  cases h with
  | nil=>exact .nil
  | row h1 h3=>exact .row h1 (by rw [hk _ _ _ _ rfl];exact h3)
theorem two_app (ha:OwnV n H a A)(hb:OwnV n H b B)(hap:ApV a b){x:Int}(hn:lim≤n∧n≤H.length)(hl:A.length<1000000) :
    ∃a' H',vappend lim 1 8 (H++[.row [.int .i64 x] true]) a (.sl H.length 0 1 1)=some (a',H')∧OwnV n H' a' (A++[x])∧OwnV n H' b B∧ApV a' b∧(∀H0,HX H0 H→H0.length≤n→HX H0 H')∧n≤H'.length:=by
  obtain ⟨a',H',c1,c2,c3,c4,c5,c6⟩:=ha.appendF (lim:=lim) (x:=x) hn hl
  refine ⟨a',H',c1,c2,hb.keepV fun k o m z e=>c5 k (hb.belowB _ _ _ _ e).2 fun o' z' y' e'=>hap _ _ _ _ _ _ _ e' e,fun k o z y o' z' y' e1 e2 => ?_,c3,by omega⟩
  have h1:=c6 _ _ _ _ e1
  have h2:=(hb.belowB _ _ _ _ e2).2
  omega
theorem readPiece_t (hv:SlV H v ns)(hev:ns.length % 2=0)(hl:ns.length≤5000)(hlim:lim≤H.length)(hK:∀H' a b,HX H H'→OwnV H.length H' a (prs ns).1→OwnV H.length H' b (prs ns).2→K (.agg [a,b]) H'):VCall tbl lim 44 [v] H K:=by
  refine VCall_fn tbl_at44 rfl ?_
  simp [vf44]
  refine wLoop_up (ns.length / 2) (fun i fr L H'=>(fr 0=v∧fr 2=.lp 0 0∧fr 3=.lp 1 0∧fr 4=.int .i64 (2*(i:Int)))∧(∃a b,L=[[.snil,.snil],[a,b]]∧HX H H'∧OwnV H.length H' a (prs (ns.take (2*i))).1∧OwnV H.length H' b (prs (ns.take (2*i))).2∧ApV a b)∧2*i≤ns.length) ⟨⟨by simp,by simp,by simp,by simp⟩,⟨.snil,.snil,by simp,.refl,.nil,.nil,fun k o z y o' z' y' h=>by cases h⟩,by omega⟩ ?_
  rintro i hi fr L H1 ⟨⟨f0,f2,f3,f4⟩,⟨a,b,rfl,x1,ha,hb,hap⟩,hle⟩
  have l1:=x1.len
  have hv1:=hv.mono x1
  by_cases hp:2*i<ns.length
  · have hp':(2*(i:Int)<(ns.length:Int))=True:=eq_true (by omega)
    have h2:2*i+1<ns.length:=by omega
    have hnx:=prs_next h2
    have hpl:=prs_len ns.length (l:=ns.take (2*i)) (by simp;omega)
    rw [List.length_take] at hpl
    have a1:=hv1.addr (i:=((2*i:Nat):Int)) ⟨by omega,by omega⟩
    have d1:=fun L=>hv1.load (i:=2*i) (by omega) (L:=L)
    simp only [Int.toNat_natCast] at a1
    rw [show ((2*i:Nat):Int)=2*(i:Int) by omega] at a1
    obtain ⟨a',H2,c1,c2,c3,c4,c5,c6⟩:=two_app (lim:=lim) (x:=ns.getD (2*i) 0) ha hb hap ⟨by omega,by omega⟩ (by omega)
    have x2:=c5 H x1 (Nat.le_refl _)
    have hv2:=hv.mono x2
    have a2:=hv2.addr (i:=((2*i+1:Nat):Int)) ⟨by omega,by omega⟩
    have d2:=fun L=>hv2.load (i:=2*i+1) (by omega) (L:=L)
    simp only [Int.toNat_natCast] at a2
    rw [show ((2*i+1:Nat):Int)=2*(i:Int)+1 by omega] at a2
    obtain ⟨b',H3,e1,e2,e3,e4,e5,e6⟩:=two_app (lim:=lim) (x:=ns.getD (2*i+1) 0) c3 c2 c4.symm ⟨by omega,by omega⟩ (by omega)
    simp (disch:=omega) [f0,f2,f3,f4,hv.len,hp',a1,d1,c1,c2.sl.stor,c2.sl.one,a2,d2,e1,e2.sl.stor,e2.sl.one,ha.sl.stor,hb.sl.stor,ha.sl.one,hb.sl.one,rd0,rd1',splice,wrap_i64]
    rw [hnx]
    exact ⟨by omega,by omega,⟨_,_,⟨rfl,rfl⟩,e5 H x2 (Nat.le_refl _),e3,e2,e4.symm⟩,by omega⟩
  have hp':(2*(i:Int)<(ns.length:Int))=False:=eq_false (by omega)
  have hi2:2*i=ns.length:=by omega
  rw [hi2,List.take_length] at ha hb
  simp [f0,f2,f3,f4,hv.len,hp',ha.sl.stor,hb.sl.stor,ha.sl.one,hb.sl.one,rdA2,spl2]
  exact hK H1 a b x1 ha hb
end
end Go.Proofs.YtgjlhdggllakbaaGreatDoor.Vm
namespace Go.Proofs.YtgjlhdggllakbaaGreatDoor.Vm
open Go
set_option maxRecDepth 100000
set_option maxHeartbeats 2000000
set_option linter.unusedSimpArgs false
set_option linter.unusedVariables false
attribute [-simp] List.getD_eq_getElem?_getD
theorem put_bd {ev:Bool}{x:Cp}{w:List UInt8}{ns:List Int}:(x.put ev w ns).P.length≤x.P.length+1∧(x.put ev w ns).S.length≤x.S.length+1:=by
  unfold Cp.put
  split
  · simp
  · split
    · simp
    · split<;>simp
theorem take_bd {num:List UInt8→Int}{ev:Bool}{Ls:List (List UInt8)}:∀i,((Ls.take i).foldl (Cp.take num ev) ⟨[],[],0⟩).P.length≤i∧((Ls.take i).foldl (Cp.take num ev) ⟨[],[],0⟩).S.length≤i
  | 0=>by simp
  | i + 1=>by
    have ih:=take_bd (num:=num) (ev:=ev) (Ls:=Ls) i
    rw [List.take_add_one,List.foldl_append]
    cases Ls[i]? with
    | none=>simp only [Option.toList_none,List.foldl_nil];omega
    | some l =>
      simp only [Option.toList_some,List.foldl_cons,List.foldl_nil]
      have:=put_bd (ev:=ev) (x:=(Ls.take i).foldl (Cp.take num ev) ⟨[],[],0⟩) (w:=(wds 32 l).headD []) (ns:=(wds 32 l).tail.map num)
      exact ⟨Nat.le_trans this.1 (by omega),Nat.le_trans this.2 (by omega)⟩
theorem take_line {num:List UInt8→Int}{ev:Bool}{Ls:List (List UInt8)}{i:Nat}{l:List UInt8}(h:Ls[i]? = some l):(Ls.take (i+1)).foldl (Cp.take num ev) ⟨[],[],0⟩=((Ls.take i).foldl (Cp.take num ev) ⟨[],[],0⟩).put ev ((wds 32 l).headD []) ((wds 32 l).tail.map num):=by
  rw [List.take_add_one,h,List.foldl_append];rfl
theorem put_ease {ev:Bool}{x:Cp}{w:List UInt8}{ns:List Int}(h:w=easeL∧ns.length=1):x.put ev w ns={ x with e:=ns.headD 0 }:=by unfold Cp.put;rw [if_pos h]
theorem put_piece {ev:Bool}{x:Cp}{w:List UInt8}{ns:List Int}(h:w=pieceL∧(ev=true→ns.length % 2=0)):x.put ev w ns={ x with P:=x.P++[pcO ns] }:=by
  unfold Cp.put
  rw [if_neg (fun g=>ne1 (h.1.symm.trans g.1)),if_pos h]
theorem put_seam {ev:Bool}{x:Cp}{w:List UInt8}{ns:List Int}(h:w=seamL∧ns.length=4):x.put ev w ns={ x with S:=x.S++[smO ns] }:=by
  unfold Cp.put
  rw [if_neg (fun g=>ne2 (h.1.symm.trans g.1)),if_neg (fun g=>ne3 (h.1.symm.trans g.1)),if_pos h]
theorem put_no {ev:Bool}{x:Cp}{w:List UInt8}{ns:List Int}(h1:¬(w=easeL∧ns.length=1))(h2:¬(w=pieceL∧(ev=true→ns.length % 2=0)))(h3:¬(w=seamL∧ns.length=4)):x.put ev w ns=x:=by
  unfold Cp.put
  rw [if_neg h1,if_neg h2,if_neg h3]
section
variable {lim n:Nat}{H H':Hp}{K:V→Hp→Prop}{v d p u a b pv sv:V}{ws:List V}{c:Cp}{A B ns:List Int}{P:List Pc}{S:List Sm}{e:Int}
theorem OCapV.setE (h:OCapV n H [pv,sv,.int .i64 e] ⟨P,S,e⟩){e':Int}:OCapV n H [pv,sv,.int .i64 e'] ⟨P,S,e'⟩:=by
  cases h with
  | mk h1 h2 h3 h4=>exact .mk h1 h2 h3 h4
theorem sub1 {Ws r:List (List UInt8)}{b:Nat}{w0:List UInt8}(hu:LstV strC H (.sl b 0 Ws.length 1) (Ws.map bA))(hr:Ws=w0 :: r):∃sv,vslS 1 (.sl b 0 Ws.length 1) (some (.int .i64 1)) none=some sv∧vlenS sv=some (.int .i64 (r.length:Int))∧LstV strC H sv (r.map bA)∧stor sv=true:=by
  have hml:(Ws.map bA).length=Ws.length:=by simp
  have hl:Ws.length=r.length+1:=by rw [hr];rfl
  have hb:vbounds (Ws.map bA).length (some (.int .i64 1)) none=some (1,Ws.length):=by
    rw [hml]
    exact vbounds_lo (n:=1) (by omega)
  have h1:=hu.subW (a:=1) (b:=Ws.length) ⟨by omega,by omega⟩ (by omega) hb
  have h2:=hu.sub (a:=1) (b:=Ws.length) ⟨by omega,by omega⟩
  have e:((Ws.map bA).drop 1).take (Ws.length-1)=r.map bA:=by
    rw [←List.map_drop,hr,List.drop_one,List.tail_cons,List.take_of_length_le (by simp)]
  rw [e] at h2
  refine ⟨_,h1,?_,h2,h2.stor⟩
  rw [h2.len];simp
theorem readLines_t {T:List UInt8} (hg:HX glHp H) (hT:T.length≤4000) (hlim:lim≤H.length) (hK:∀H' ws,HX H H'→OCapV H.length H' ws (rdK atV true (wds 10 T))→K (.agg ws) H'):VCall tbl lim 20 [.str (bA T)] H K:=by
  refine VCall_fn tbl_at20 rfl ?_
  simp [vf20]
  refine splitc_t (c:=10) (by rw [bA_size];omega) ?_
  rw [list_bA]
  have wm:=wds_mem (c:=10) T
  have wl:=wds_len (c:=10) T
  have hu0:=str_l (H:=H) (X:=[]) (l:=wds 10 T)
  obtain ⟨Ls,hLs⟩:∃Ws,Ws=wds 10 T:=⟨_,rfl⟩
  rw [←hLs] at hK wm wl hu0 ⊢
  have x0:HX H (H++[.row (strC.all (Ls.map bA)) true]):=⟨_,rfl⟩
  have l0:(H++[Blk.row (strC.all (Ls.map bA)) true]).length=H.length+1:=by simp
  obtain ⟨b0,hb0⟩:∃b,b=H.length:=⟨_,rfl⟩
  rw [←hb0] at hu0 l0 ⊢
  generalize H++[Blk.row (strC.all (Ls.map bA)) true]=H0 at *
  simp
  refine wLoop_up Ls.length (fun i fr L H'=>(fr 2=.lp 0 0∧fr 3=.lp 1 0∧fr 13=.sl b0 0 Ls.length 1∧fr 14=.int .i64 (Ls.length:Int)∧fr 15=.int .i64 (i:Int))∧(∃pv sv P S e,L=[[.snil,.snil,.int .i64 0],[pv,sv,.int .i64 e]]∧HX H0 H'∧OCapV H0.length H' [pv,sv,.int .i64 e] ⟨P,S,e⟩∧(⟨P,S,e⟩:Cp)=(Ls.take i).foldl (Cp.take atV true) ⟨[],[],0⟩)∧i≤Ls.length) ⟨⟨by simp,by simp,by simp,by simp,by simp⟩,⟨.snil,.snil,[],[],0,by simp,.refl,.mk (ps:=[]) .nil .nil (fun k o z y o' z' y' h=>by cases h) (fun i hi=>by simp at hi),rfl⟩,by omega⟩ ?_
  rintro i hi fr L H1 ⟨⟨f2,f3,f13,f14,f15⟩,⟨pv,sv,P,S,e,rfl,x1,hc,hx⟩,hle⟩
  have l1:=x1.len
  by_cases hp:i<Ls.length
  · have hp':((i:Int)<(Ls.length:Int))=True:=eq_true (by omega)
    obtain ⟨ln,hln⟩:∃w,Ls[i]? = some w:=⟨_,List.getElem?_eq_getElem hp⟩
    have hnx:=take_line (num:=atV) (ev:=true) hln
    have hbd:=take_bd (num:=atV) (ev:=true) (Ls:=Ls) i
    rw [←hx] at hnx hbd
    simp only at hbd
    obtain ⟨d1,a1⟩:=str_at (hu0.mono x1) hln
    have hll:=wm ln (List.mem_of_getElem? hln)
    have hwm:=wds_mem (c:=32) ln
    have hwl:=wds_len (c:=32) ln
    have hmin:=wds_min (c:=32) ln
    have hs6:=str_l (H:=H1) (X:=[]) (l:=wds 32 ln)
    have x6:HX H1 (H1++[.row (strC.all ((wds 32 ln).map bA)) true]):=⟨_,rfl⟩
    simp (disch:=omega) [f2,f3,f13,f14,f15,hp',d1,a1]
    refine splitc_t (c:=32) (by rw [bA_size];omega) ?_
    rw [list_bA]
    have l6:(H1++[Blk.row (strC.all ((wds 32 ln).map bA)) true]).length=H1.length+1:=by simp
    obtain ⟨b6,hb6⟩:∃b,b=H1.length:=⟨_,rfl⟩
    rw [←hb6] at hs6 l6 ⊢
    have hc6:=hc.mono x6
    generalize H1++[Blk.row (strC.all ((wds 32 ln).map bA)) true]=H6 at *
    obtain ⟨Ws,hWs⟩:∃Ws,Ws=wds 32 ln:=⟨_,rfl⟩
    rw [←hWs] at hnx hwm hwl hmin hs6 ⊢
    obtain ⟨w0,r,hWr⟩:∃w0 r,Ws=w0 :: r:=by
      match Ws,hmin with
      | w0 :: r,_=>exact ⟨w0,r,rfl⟩
    obtain ⟨sb,q1,q2,q3,q4⟩:=sub1 hs6 hWr
    have hrl:r.length≤4001:=by rw [hWr] at hwl;simp at hwl;omega
    have hnx:(Ls.take (i+1)).foldl (Cp.take atV true) ⟨[],[],0⟩=(⟨P,S,e⟩:Cp).put true w0 (r.map atV):=by rw [hnx,hWr];rfl
    simp (disch:=omega) [f2,f3,f13,f14,f15,q1,q2,q4]
    refine wLoop_up r.length (fun j fr L H'=>(fr 2=.lp 0 0∧fr 3=.lp 1 0∧fr 13=.sl b0 0 Ls.length 1∧fr 14=.int .i64 (Ls.length:Int)∧fr 15=.int .i64 (i:Int)∧fr 6=.sl b6 0 Ws.length 1∧fr 22=sb∧fr 23=.int .i64 (r.length:Int)∧fr 24=.int .i64 (j:Int))∧(∃nv,fr 7=nv∧HX H6 H'∧OwnV H6.length H' nv ((r.take j).map atV))∧L=[[.snil,.snil,.int .i64 0],[pv,sv,.int .i64 e]]∧j≤r.length) ⟨⟨by simp [f2],by simp [f3],by simp [f13],by simp [f14],by simp [f15],by simp,by simp,by simp,by simp⟩,⟨.snil,by simp,.refl,.nil⟩,rfl,by omega⟩ ?_
    clear f2 f3 f13 f14 f15
    rintro j hj fr2 L2 H7 ⟨⟨f2,f3,f13,f14,f15,f6,f22,f23,f24⟩,⟨nv,f7,x7,hn⟩,rfl,hle2⟩
    have l7:=x7.len
    by_cases hj2:j<r.length
    · have hj':((j:Int)<(r.length:Int))=True:=eq_true (by omega)
      obtain ⟨w,hw⟩:∃w,r[j]? = some w:=⟨_,List.getElem?_eq_getElem hj2⟩
      obtain ⟨d2,a2⟩:=str_at (q3.mono x7) hw
      have hwl2:=hwm w (by rw [hWr];simp [List.mem_of_getElem? hw])
      simp (disch:=omega) [f2,f3,f13,f14,f15,f6,f22,f23,f24,f7,hj',d2,a2]
      refine atoi_v ((((hg.trans x0).trans x1).trans x6).trans x7) (by rw [bA_size];omega) fun H8 ev x8 => ?_
      replace x8:HX H7 H8:=x8
      have l8:=x8.len
      rw [list_bA]
      obtain ⟨nv',H9,c1,c2,c3,c4,c5,c6⟩:=(hn.mono x8).appendF (lim:=lim) (x:=atV w) ⟨by omega,by omega⟩ (by simp;omega)
      have ht:(r.take (j+1)).map atV=(r.take j).map atV++[atV w]:=by rw [List.take_add_one,hw];simp
      simp (disch:=omega) [f2,f3,f13,f14,f15,f6,f22,f23,f24,f7,c1,hn.sl.stor,wrap_i64]
      exact ⟨hj2,⟨c3 _ (x7.trans x8) (Nat.le_refl _),by rw [List.map_take] at ht;rw [ht];exact c2⟩,hj2⟩
    have hj':((j:Int)<(r.length:Int))=False:=eq_false (by omega)
    have hj3:j=r.length:=by omega
    subst hj3
    rw [List.take_length] at hn
    have hcn:=hc6.mono x7
    obtain ⟨d3,a3⟩:=str_at (hs6.mono x7) (i:=0) (w:=w0) (by rw [hWr];rfl)
    have a3:viaddrS 1 (.sl b6 0 Ws.length 1) (.int .i64 0)=some (ept 1 (.sl b6 0 Ws.length 1) 0):=a3
    obtain ⟨ns,hns⟩:∃ns,ns=r.map atV:=⟨_,rfl⟩
    rw [←hns] at hn hnx
    have hnl:ns.length=r.length:=by rw [hns];simp
    have hnv:=hn.sl
    have hvl:=hnv.len
    obtain ⟨z1,z2,z3,z4⟩:=hcn.vals
    have x17:=(x1.trans x6).trans x7
    have q5:=eqq_bA (W:=w0) (T:=easeL)
    have q6:=eqq_bA (W:=w0) (T:=pieceL)
    have q7:=eqq_bA (W:=w0) (T:=seamL)
    by_cases k1:w0=easeL∧ns.length=1
    · obtain ⟨k1,k2⟩:=k1
      rw [put_ease ⟨k1,k2⟩] at hnx
      rw [decide_eq_true k1] at q5
      have k2':((ns.length:Int)=1)=True:=eq_true (by omega)
      have a4:=hnv.addr (i:=0) ⟨by omega,by omega⟩
      have a4:viaddrS 1 nv (.int .i64 0)=some (ept 1 nv 0):=a4
      have d4:=fun L=>hnv.load (i:=0) (by omega) (L:=L)
      have eh:ns.headD 0=ns.getD 0 0:=by
        match ns,k2 with
        | [x],_=>rfl
      rw [eh] at hnx
      simp (disch:=omega) [f2,f3,f13,f14,f15,f6,f22,f23,f24,f7,hj',d3,a3,sE,q5,hvl,k2',a4,d4,splice,wrap_i64]
      exact ⟨hp,⟨pv,sv,P,S,ns.getD 0 0,⟨rfl,rfl,rfl⟩,x17,hcn.setE,hnx.symm⟩,hp⟩
    have n1:(decide (w0=easeL)&&decide ((ns.length:Int)=1))=false:=by
      rw [Bool.eq_false_iff]
      intro h
      simp only [Bool.and_eq_true,decide_eq_true_eq] at h
      exact k1 ⟨h.1,by omega⟩
    by_cases k3:w0=pieceL∧ns.length % 2=0
    · obtain ⟨k3,k4⟩:=k3
      rw [put_piece ⟨k3,fun _=>k4⟩] at hnx
      have ke:¬w0=easeL:=fun h=>ne1 (k3.symm.trans h)
      rw [decide_eq_false ke] at q5
      rw [decide_eq_true k3] at q6
      have rm:Int.tmod (ns.length:Int) 2=0:=by rw [Int.tmod_eq_emod_of_nonneg (by omega)];omega
      simp (disch:=omega) [f2,f3,f13,f14,f15,f6,f22,f23,f24,f7,hj',d3,a3,sE,sP,q5,q6,hvl,rm,hnv.stor,z1,rd0]
      refine readPiece_t hnv k4 (by omega) (Nat.le_refl _) fun H8 a b x8 ha hb => ?_
      replace x8:HX H7 H8:=x8
      have l8:=x8.len
      obtain ⟨pv',H9,c1,c2,c3,c4⟩:=hcn.pushP (lim:=lim) (p:=pcO ns) x8 ha hb ⟨by omega,by omega⟩ (by omega)
      have y1:=ha.sl.stor
      have y2:=hb.sl.stor
      have y3:=ha.sl.one
      have y4:=hb.sl.one
      obtain ⟨w1,w2,w3,w4⟩:=c2.vals
      simp (disch:=omega) [f2,f3,f13,f14,f15,f6,f22,f23,f24,f7,y1,y2,y3,y4,spl2,c1,z1,w1,w2,rd0,splice,wrap_i64]
      exact ⟨hp,⟨_,_,_,_,_,⟨rfl,rfl,rfl⟩,c3 _ (x17.trans x8) (Nat.le_refl _),c2,hnx.symm⟩,hp⟩
    have n2:(decide (w0=pieceL)&&decide (Int.tmod (ns.length:Int) 2=0))=false:=by
      rw [Bool.eq_false_iff]
      intro h
      simp only [Bool.and_eq_true,decide_eq_true_eq] at h
      refine k3 ⟨h.1,?_⟩
      have:=h.2
      rw [Int.tmod_eq_emod_of_nonneg (by omega)] at this
      omega
    by_cases k5:w0=seamL∧ns.length=4
    · obtain ⟨k5,k6⟩:=k5
      rw [put_seam ⟨k5,k6⟩] at hnx
      have ke:¬w0=easeL:=fun h=>ne2 (k5.symm.trans h)
      have kp:¬w0=pieceL:=fun h=>ne3 (k5.symm.trans h)
      rw [decide_eq_false ke] at q5
      rw [decide_eq_false kp] at q6
      rw [decide_eq_true k5] at q7
      have k6':((ns.length:Int)=4)=True:=eq_true (by omega)
      have b0':viaddrS 1 nv (.int .i64 0)=some (ept 1 nv 0):=hnv.addr (i:=0) ⟨by omega,by omega⟩
      have b1':viaddrS 1 nv (.int .i64 1)=some (ept 1 nv 1):=hnv.addr (i:=1) ⟨by omega,by omega⟩
      have b2':viaddrS 1 nv (.int .i64 2)=some (ept 1 nv 2):=hnv.addr (i:=2) ⟨by omega,by omega⟩
      have b3':viaddrS 1 nv (.int .i64 3)=some (ept 1 nv 3):=hnv.addr (i:=3) ⟨by omega,by omega⟩
      have e0:=fun L=>hnv.load (i:=0) (by omega) (L:=L)
      have e1:=fun L=>hnv.load (i:=1) (by omega) (L:=L)
      have e2:=fun L=>hnv.load (i:=2) (by omega) (L:=L)
      have e3:=fun L=>hnv.load (i:=3) (by omega) (L:=L)
      obtain ⟨sv',H9,c1,c2,c3,c4⟩:=hcn.pushS (lim:=lim) (x:=smO ns) (cs:=[.int .i64 (ns.getD 0 0),.int .i64 (ns.getD 1 0),.int .i64 (ns.getD 2 0),.int .i64 (ns.getD 3 0)]) rfl ⟨by omega,by omega⟩ (by omega)
      obtain ⟨w1,w2,w3,w4⟩:=c2.vals
      simp (disch:=omega) [f2,f3,f13,f14,f15,f6,f22,f23,f24,f7,hj',d3,a3,sE,sP,sS,q5,q6,q7,hvl,k6',b0',b1',b2',b3',e0,e1,e2,e3,z1,z3,rd0,rd1',zs4,spl4,splice,c1,w3,w4,wrap_i64]
      exact ⟨hp,⟨_,_,_,_,_,⟨rfl,rfl,rfl⟩,c3 _ x17 (Nat.le_refl _),c2,hnx.symm⟩,hp⟩
    have n3:(decide (w0=seamL)&&decide ((ns.length:Int)=4))=false:=by
      rw [Bool.eq_false_iff]
      intro h
      simp only [Bool.and_eq_true,decide_eq_true_eq] at h
      exact k5 ⟨h.1,by omega⟩
    rw [put_no k1 (fun h=>k3 ⟨h.1,h.2 rfl⟩) k5] at hnx
    obtain ⟨g1,hg1⟩:∃g,g=decide (w0=easeL):=⟨_,rfl⟩
    obtain ⟨g2,hg2⟩:∃g,g=decide (w0=pieceL):=⟨_,rfl⟩
    obtain ⟨g3,hg3⟩:∃g,g=decide (w0=seamL):=⟨_,rfl⟩
    rw [←hg1] at q5 n1
    rw [←hg2] at q6 n2
    rw [←hg3] at q7 n3
    cases g1<;>cases g2<;>cases g3<;>simp at n1 n2 n3<;>simp (disch:=omega) [f2,f3,f13,f14,f15,f6,f22,f23,f24,f7,hj',d3,a3,sE,sP,sS,q5,q6,q7,hvl,n1,n2,n3,wrap_i64]<;>exact ⟨hp,⟨pv,sv,P,S,e,⟨rfl,rfl,rfl⟩,x17,hcn,hnx.symm⟩,hp⟩
  have hp':((i:Int)<(Ls.length:Int))=False:=eq_false (by omega)
  have hi2:i=Ls.length:=by omega
  subst hi2
  rw [List.take_length] at hx
  obtain ⟨z1,z2,z3,z4⟩:=hc.vals
  simp [f2,f3,f13,f14,f15,hp',z1,z2,z3,z4,rdA3,spl3]
  refine hK H1 _ (x0.trans x1) ?_
  have:rdK atV true Ls=⟨P,S,e⟩:=hx.symm
  rw [this]
  exact hc.le (by omega)
end
end Go.Proofs.YtgjlhdggllakbaaGreatDoor.Vm
namespace Go.Proofs.YtgjlhdggllakbaaGreatDoor.Vm
open Go
set_option maxRecDepth 100000
set_option maxHeartbeats 2000000
set_option linter.unusedSimpArgs false
set_option linter.unusedVariables false
attribute [-simp] List.getD_eq_getElem?_getD
theorem prs_half {l:List Int}{k:Nat}(h:l.length=2*k∨l.length=2*k+1):prs (l.take (2*k))=prs l:=by
  rcases h with h | h
  · rw [List.take_of_length_le (by omega)]
  · have e:l=l.take (2*k)++[l.getD (2*k) 0]:=by
      rw [←take_snoc (by omega),List.take_of_length_le (by omega)]
    conv=>rhs;rw [e]
    rw [prs_odd k (by simp;omega)]
theorem isLp_ept {sz i:Nat}{v:V}:isLp (ept sz v i)=false:=by cases v<;>rfl
section
variable {lim n:Nat}{H H':Hp}{K:V→Hp→Prop}{v d p u a b pv sv:V}{ws:List V}{c:Cp}{A B ns:List Int}{P:List Pc}{S:List Sm}{e:Int}
theorem keep_u {H1 H2:Hp}{pv':V}{α:Type}{k:Nat}{cd:Cod α k}{l:List α}{p:Pc}(hc:OCapV n H [pv,sv,.int .i64 e] ⟨P,S,e⟩)(h:OCapV n H1 [pv,sv,.int .i64 e] ⟨P,S,e⟩)(hx:HX H1 H')(ha:OwnV H1.length H' a p.s)(hb:OwnV H1.length H' b p.a)(hn:lim≤n∧n≤H1.length)(hl:P.length<1000000)
    (hv:vappend lim 2 48 (H'++[.row [a,b] true]) pv (.sl H'.length 0 1 2)=some (pv',H2)) (hu:OwnT H.length cd H1 u l):LstV cd H2 u l:=by
  have hb0:∀b o m z,pv=.sl b o m z→b<H.length:=by
    cases hc with
    | mk h1 h2 h3 h4=>exact fun b o m z e=>(h1.own.belowB _ _ _ _ e).2
  cases h with
  | mk h1 h2 h3 h4 =>
  obtain ⟨v2,H3,e1,_,_,_,a5,_⟩:=h1.append hx ha hb hn hl
  have e2:=e1.symm.trans hv
  cases e2
  refine ((hu.mono hx).keepB fun b o m z e=>a5 b ((hu.mono hx).belowB _ _ _ _ e).2 fun o' z' y' e' => ?_).lst
  have g1:=((hu.mono hx).belowB _ _ _ _ e).1
  have g2:=hb0 _ _ _ _ e'
  omega
theorem take_r {ln:List UInt8} (hc:OCapV n H [pv,sv,.int .i64 e] ⟨P,S,e⟩) (hn:lim≤n∧n≤H.length) (hl:ln.length≤4000) (hP:P.length<100000∧S.length<100000)
    (hK:∀H' pv' sv' P' S' e',(∀H0,HX H0 H→H0.length≤n→HX H0 H')→n≤H'.length→OCapV n H' [pv',sv',.int .i64 e'] ⟨P',S',e'⟩→(⟨P',S',e'⟩:Cp)=(⟨P,S,e⟩:Cp).put false ((wds 32 ln).headD []) ((wds 32 ln).tail.map numR)→K (.agg [pv',sv',.int .i64 e']) H') :
    VCall tbl lim 22 [.agg [pv,sv,.int .i64 e],.str (bA ln)] H K:=by
  refine VCall_fn tbl_at22 rfl ?_
  obtain ⟨z1,z2,z3,z4⟩:=hc.vals
  simp [vf22,z1,z2,z3,z4]
  refine words_r (c:=32) (by omega) (by rw [bA_size];omega) (by omega) fun H1 u x1 hu => ?_
  replace x1:HX H H1:=x1
  have l1:=x1.len
  rw [list_bA,show UInt8.ofNat 32=32 from rfl] at hu
  have hu1:=hu.lst
  have hwm:=wds_mem (c:=32) ln
  have hwl:=wds_len (c:=32) ln
  have hmin:=wds_min (c:=32) ln
  obtain ⟨Ws,hWs⟩:∃Ws,Ws=wds 32 ln:=⟨_,rfl⟩
  rw [←hWs] at hK hwm hwl hmin hu1 hu
  obtain ⟨w0,r,hWr⟩:∃w0 r,Ws=w0 :: r:=by
    match Ws,hmin with
    | w0 :: r,_=>exact ⟨w0,r,rfl⟩
  have hWl:Ws.length=r.length+1:=by rw [hWr];rfl
  have hul:vlenS u=some (.int .i64 (Ws.length:Int)):=by rw [hu1.len];simp
  have e1:Ws.headD []=w0:=by rw [hWr];rfl
  have e2:Ws.tail.map numR=r.map numR:=by rw [hWr];rfl
  rw [e1,e2] at hK
  have hc1:=hc.mono x1
  refine wLoop_up r.length (fun j fr L H'=>(fr 2=.lp 0 0∧fr 4=.lp 1 0∧fr 5=u∧fr 7=.int .i64 (1+(j:Int)))∧(∃nv,fr 6=nv∧HX H1 H'∧OwnV H1.length H' nv ((r.take j).map numR))∧L=[[pv,sv,.int .i64 e],[.snil,.snil,.int .i64 0]]∧j≤r.length) ⟨⟨by simp,by simp,by simp,by simp⟩,⟨.snil,by simp,.refl,.nil⟩,by simp,by omega⟩ ?_
  rintro j hj fr L H2 ⟨⟨f2,f4,f5,f7⟩,⟨nv,f6,x2,hn2⟩,rfl,hle⟩
  have l2:=x2.len
  by_cases hj2:j<r.length
  · have hj':(1+(j:Int)<(Ws.length:Int))=True:=eq_true (by omega)
    obtain ⟨w,hw⟩:∃w,r[j]? = some w:=⟨_,List.getElem?_eq_getElem hj2⟩
    obtain ⟨d2,a2⟩:=str_at (hu1.mono x2) (i:=1+j) (w:=w) (by rw [hWr,Nat.add_comm];exact hw)
    rw [show ((1+j:Nat):Int)=1+(j:Int) by omega] at a2
    have hwl2:=hwm w (by rw [hWr];simp [List.mem_of_getElem? hw])
    simp (disch:=omega) [f2,f4,f5,f6,f7,hul,hj',d2,a2]
    refine number_r (by rw [bA_size];omega) ?_
    rw [list_bA]
    obtain ⟨nv',H3,c1,c2,c3,c4,c5,c6⟩:=hn2.appendF (lim:=lim) (x:=numR w) ⟨by omega,by omega⟩ (by simp;omega)
    have ht:(r.take (j+1)).map numR=(r.take j).map numR++[numR w]:=by rw [List.take_add_one,hw];simp
    simp (disch:=omega) [f2,f4,f5,f6,f7,c1,hn2.sl.stor,wrap_i64]
    exact ⟨hj2,by omega,⟨c3 _ x2 (Nat.le_refl _),by rw [List.map_take] at ht;rw [ht];exact c2⟩,hj2⟩
  have hj':(1+(j:Int)<(Ws.length:Int))=False:=eq_false (by omega)
  have hj3:j=r.length:=by omega
  subst hj3
  rw [List.take_length] at hn2
  have hcn:=hc1.mono x2
  obtain ⟨d3,a3⟩:=str_at (hu1.mono x2) (i:=0) (w:=w0) (by rw [hWr];rfl)
  have a3:viaddrS 1 u (.int .i64 0)=some (ept 1 u 0):=a3
  obtain ⟨ns,hns⟩:∃ns,ns=r.map numR:=⟨_,rfl⟩
  rw [←hns] at hn2 hK
  have hnl:ns.length=r.length:=by rw [hns];simp
  have hrl:r.length≤4001:=by omega
  have hnv:=hn2.sl
  have hvl:=hnv.len
  have x12:=x1.trans x2
  have q5:=eqq_bA (W:=w0) (T:=easeL)
  have q6:=eqq_bA (W:=w0) (T:=pieceL)
  have q7:=eqq_bA (W:=w0) (T:=seamL)
  by_cases k0:w0=easeL
  · have kp:¬w0=pieceL:=fun h=>ne1 (h.symm.trans k0)
    have ks:¬w0=seamL:=fun h=>ne2 (h.symm.trans k0)
    rw [decide_eq_true k0] at q5
    rw [decide_eq_false kp] at q6
    rw [decide_eq_false ks] at q7
    by_cases k2:ns.length=1
    · have k2':((ns.length:Int)=1)=True:=eq_true (by omega)
      have a4:viaddrS 1 nv (.int .i64 0)=some (ept 1 nv 0):=hnv.addr (i:=0) ⟨by omega,by omega⟩
      have d4:=fun L=>hnv.load (i:=0) (by omega) (L:=L)
      have eh:ns.headD 0=ns.getD 0 0:=by
        match ns,k2 with
        | [x],_=>rfl
      simp (disch:=omega) [f2,f4,f5,f6,f7,hul,hj',d3,a3,sE,sP,sS,q5,q6,q7,hvl,k2',a4,d4,splice,rdA3,z1,z2,z3,z4,wrap_i64]
      exact hK H2 pv sv P S _ (fun H0 h _=>h.trans x12) (by omega) hcn.setE (by rw [put_ease ⟨k0,k2⟩,eh])
    · have k2':((ns.length:Int)=1)=False:=eq_false (by omega)
      simp (disch:=omega) [f2,f4,f5,f6,f7,hul,hj',d3,a3,sE,sP,sS,q5,q6,q7,hvl,k2',splice,rdA3,z1,z2,z3,z4,wrap_i64]
      exact hK H2 pv sv P S _ (fun H0 h _=>h.trans x12) (by omega) hcn (by rw [put_no (fun h=>k2 h.2) (fun h=>kp h.1) (fun h=>ks h.1)])
  rw [decide_eq_false k0] at q5
  by_cases k1:w0=pieceL
  · have ks:¬w0=seamL:=fun h=>ne3 (h.symm.trans k1)
    rw [decide_eq_true k1] at q6
    rw [decide_eq_false ks] at q7
    simp (disch:=omega) [f2,f4,f5,f6,f7,hul,hj',d3,a3,sE,sP,sS,q5,q6,q7,hvl,wrap_i64]
    refine wLoop_up (ns.length / 2) (fun i fr L H'=>(fr 2=.lp 0 0∧fr 4=.lp 1 0∧fr 5=u∧fr 6=nv∧fr 8=.lp 2 0∧fr 9=.int .i64 (2*(i:Int)))∧(∃a b,L=[[pv,sv,.int .i64 e],[.snil,.snil,.int .i64 0],[a,b]]∧HX H2 H'∧OwnV H2.length H' a (prs (ns.take (2*i))).1∧OwnV H2.length H' b (prs (ns.take (2*i))).2∧ApV a b)∧2*i≤ns.length) ⟨⟨by simp [f2],by simp [f4],by simp [f5],by simp [f6],by simp,by simp⟩,⟨.snil,.snil,by simp,.refl,.nil,.nil,fun k o z y o' z' y' h=>by cases h⟩,by omega⟩ ?_
    clear f2 f4 f5 f6 f7
    rintro i hi fr2 L2 H3 ⟨⟨f2,f4,f5,f6,f8,f9⟩,⟨a,b,rfl,x3,ha,hb,hap⟩,hle2⟩
    have l3:=x3.len
    have hv3:=hnv.mono x3
    by_cases hp:2*i+1<ns.length
    · have hp':(2*(i:Int)+1<(ns.length:Int))=True:=eq_true (by omega)
      have hnx:=prs_next hp
      have hpl:=prs_len ns.length (l:=ns.take (2*i)) (by simp;omega)
      rw [List.length_take] at hpl
      have a1:=hv3.addr (i:=((2*i:Nat):Int)) ⟨by omega,by omega⟩
      have d1:=fun L=>hv3.load (i:=2*i) (by omega) (L:=L)
      simp only [Int.toNat_natCast] at a1
      rw [show ((2*i:Nat):Int)=2*(i:Int) by omega] at a1
      obtain ⟨a',H4,c1,c2,c3,c4,c5,c6⟩:=two_app (lim:=lim) (x:=ns.getD (2*i) 0) ha hb hap ⟨by omega,by omega⟩ (by omega)
      have x4:=c5 H2 x3 (Nat.le_refl _)
      have hv4:=hnv.mono x4
      have a2:=hv4.addr (i:=((2*i+1:Nat):Int)) ⟨by omega,by omega⟩
      have d2:=fun L=>hv4.load (i:=2*i+1) (by omega) (L:=L)
      simp only [Int.toNat_natCast] at a2
      rw [show ((2*i+1:Nat):Int)=2*(i:Int)+1 by omega] at a2
      obtain ⟨b',H5,g1,g2,g3,g4,g5,g6⟩:=two_app (lim:=lim) (x:=ns.getD (2*i+1) 0) c3 c2 c4.symm ⟨by omega,by omega⟩ (by omega)
      simp (disch:=omega) [f2,f4,f5,f6,f8,f9,hvl,hp',isLp_ept,a1,d1,c1,c2.sl.stor,c2.sl.one,a2,d2,g1,g2.sl.stor,g2.sl.one,ha.sl.stor,hb.sl.stor,ha.sl.one,hb.sl.one,rd0,rd1',splice,wrap_i64]
      rw [hnx]
      exact ⟨by omega,by omega,⟨_,_,⟨rfl,rfl⟩,g5 H2 x4 (Nat.le_refl _),g3,g2,g4.symm⟩,by omega⟩
    have hp':(2*(i:Int)+1<(ns.length:Int))=False:=eq_false (by omega)
    rw [prs_half (by omega)] at ha hb
    have y1:=ha.sl.stor
    have y2:=hb.sl.stor
    have y3:=ha.sl.one
    have y4:=hb.sl.one
    obtain ⟨pv',H9,c1,c2,c3,c4⟩:=hcn.pushP (lim:=lim) (p:=pcO ns) x3 ha hb ⟨by omega,by omega⟩ (by omega)
    obtain ⟨w1,w2,w3,w4⟩:=c2.vals
    obtain ⟨d4,a4⟩:=str_at ((hu1.mono x2).mono x3) (i:=0) (w:=w0) (by rw [hWr];rfl)
    have a4:viaddrS 1 u (.int .i64 0)=some (ept 1 u 0):=a4
    have hu9:=keep_u (p:=pcO ns) hc hcn x3 ha hb ⟨by omega,by omega⟩ (by omega) c1 (hu.mono x2)
    obtain ⟨d5,a5⟩:=str_at hu9 (i:=0) (w:=w0) (by rw [hWr];rfl)
    have a5:viaddrS 1 u (.int .i64 0)=some (ept 1 u 0):=a5
    simp (disch:=omega) [f2,f4,f5,f6,f8,f9,hvl,hp',y1,y2,y3,y4,rdA2,spl2,c1,z1,z2,z3,z4,w1,w2,rd0,rd1',rd2',splice,d4,a4,d5,a5,sS,q7,rdA3,wrap_i64]
    exact hK H9 pv' sv _ _ _ (fun H0 h h0=>c3 _ ((h.trans x12).trans x3) h0) (by omega) c2 (by rw [put_piece ⟨k1,fun h=>by cases h⟩])
  rw [decide_eq_false k1] at q6
  by_cases k5:w0=seamL∧ns.length=4
  · obtain ⟨k5,k6⟩:=k5
    rw [decide_eq_true k5] at q7
    have k6':((ns.length:Int)=4)=True:=eq_true (by omega)
    have b0':viaddrS 1 nv (.int .i64 0)=some (ept 1 nv 0):=hnv.addr (i:=0) ⟨by omega,by omega⟩
    have b1':viaddrS 1 nv (.int .i64 1)=some (ept 1 nv 1):=hnv.addr (i:=1) ⟨by omega,by omega⟩
    have b2':viaddrS 1 nv (.int .i64 2)=some (ept 1 nv 2):=hnv.addr (i:=2) ⟨by omega,by omega⟩
    have b3':viaddrS 1 nv (.int .i64 3)=some (ept 1 nv 3):=hnv.addr (i:=3) ⟨by omega,by omega⟩
    have i0:=fun L=>hnv.load (i:=0) (by omega) (L:=L)
    have i1:=fun L=>hnv.load (i:=1) (by omega) (L:=L)
    have i2:=fun L=>hnv.load (i:=2) (by omega) (L:=L)
    have i3:=fun L=>hnv.load (i:=3) (by omega) (L:=L)
    obtain ⟨sv',H9,c1,c2,c3,c4⟩:=hcn.pushS (lim:=lim) (x:=smO ns) (cs:=[.int .i64 (ns.getD 0 0),.int .i64 (ns.getD 1 0),.int .i64 (ns.getD 2 0),.int .i64 (ns.getD 3 0)]) rfl ⟨by omega,by omega⟩ (by omega)
    obtain ⟨w1,w2,w3,w4⟩:=c2.vals
    simp (disch:=omega) [f2,f4,f5,f6,f7,hul,hj',d3,a3,sE,sP,sS,q5,q6,q7,hvl,k6',b0',b1',b2',b3',i0,i1,i2,i3,z1,z2,z3,z4,rd0,rd1',rd2',zs4,spl4,splice,c1,w1,w2,w3,w4,rdA3,wrap_i64]
    exact hK H9 pv sv' _ _ _ (fun H0 h h0=>c3 _ (h.trans x12) h0) (by omega) c2 (by rw [put_seam ⟨k5,k6⟩])
  have n3:(decide (w0=seamL)&&decide ((ns.length:Int)=4))=false:=by
    rw [Bool.eq_false_iff]
    intro h
    simp only [Bool.and_eq_true,decide_eq_true_eq] at h
    exact k5 ⟨h.1,by omega⟩
  have fin:=hK H2 pv sv P S e (fun H0 h _=>h.trans x12) (by omega) hcn (by rw [put_no (fun h=>k0 h.1) (fun h=>k1 h.1) k5])
  obtain ⟨g3,hg3⟩:∃g,g=decide (w0=seamL):=⟨_,rfl⟩
  rw [←hg3] at q7 n3
  cases g3<;>simp at n3<;>simp (disch:=omega) [f2,f4,f5,f6,f7,hul,hj',d3,a3,sE,sP,sS,q5,q6,q7,hvl,n3,splice,rdA3,z1,z2,z3,z4,wrap_i64]<;>exact fin
end
end Go.Proofs.YtgjlhdggllakbaaGreatDoor.Vm
namespace Go.Proofs.YtgjlhdggllakbaaGreatDoor.Vm
open Go
set_option maxRecDepth 100000
set_option maxHeartbeats 2000000
set_option linter.unusedSimpArgs false
set_option linter.unusedVariables false
attribute [-simp] List.getD_eq_getElem?_getD
theorem put_pcs {ev:Bool} {x:Cp} {w:List UInt8} {ns:List Int} (hx:∀p∈x.P,p.s.length≤5000∧p.a.length≤5000) (hn:ns.length≤5000):∀p∈(x.put ev w ns).P,p.s.length≤5000∧p.a.length≤5000:=by
  unfold Cp.put
  split
  · exact hx
  · split
    · intro p hp
      rcases List.mem_append.1 hp with hp | hp
      · exact hx p hp
      · rw [List.mem_singleton.1 hp]
        have:=prs_len ns.length (l:=ns) (Nat.le_refl _)
        unfold pcO
        simp only
        omega
    · split<;>exact hx
theorem rdK_pcs {num:List UInt8→Int}{ev:Bool}:∀{Ls:List (List UInt8)} {x:Cp},(∀l∈Ls,l.length≤4000)→(∀p∈x.P,p.s.length≤5000∧p.a.length≤5000)→∀p∈(Ls.foldl (Cp.take num ev) x).P,p.s.length≤5000∧p.a.length≤5000
  | [],x,_,hx=>hx
  | l :: Ls,x,hL,hx=>by
    rw [List.foldl_cons]
    refine rdK_pcs (fun m hm=>hL m (by simp [hm])) (put_pcs hx ?_)
    have h1:=wds_len (c:=32) l
    have h2:=hL l (by simp)
    rw [List.length_map,List.length_tail]
    omega
structure CpB (c:Cp):Prop where
  P:c.P.length≤4001
  S:c.S.length≤4001
  p:∀q,q<c.P.length→(c.P.getD q default).s.length≤5000∧(c.P.getD q default).a.length≤5000
theorem rdK_B {num:List UInt8→Int}{ev:Bool}{T:List UInt8}(hT:T.length≤4000):CpB (rdK num ev (wds 10 T)):=by
  have wm:=wds_mem (c:=10) T
  have wl:=wds_len (c:=10) T
  have h1:=take_bd (num:=num) (ev:=ev) (Ls:=wds 10 T) (wds 10 T).length
  rw [List.take_length] at h1
  refine ⟨by unfold rdK;omega,by unfold rdK;omega,fun q hq => ?_⟩
  exact rdK_pcs (x:=⟨[],[],0⟩) (fun l hl=>by have:=wm l hl;omega) (by simp) _ (getP hq)
theorem noC_B:CpB noC:=⟨by simp [noC],by simp [noC],fun q hq=>by simp [noC] at hq⟩
theorem prsK_B {num:List UInt8→Int}{ev:Bool}{T:List UInt8}:CpB (prsK (rdK num ev (wds 10 T)) T).1:=by
  unfold prsK
  split
  · exact noC_B
  · rename_i h
    split
    · exact rdK_B (by omega)
    · exact noC_B
theorem fmtK_len {c:Cp}(h:CapOk c)(hS:c.S.length≤10000):(fmtK c).length≤460+21*c.S.length:=by
  have he:=h.e
  have hn:=h.np
  have h1:=lnL_len (w:=easeL) (l:=[c.e.toNat]) (by simp;omega)
  have h2:=lnP_len h.pcB
  have h3:=lnS_len h.smB
  have e4:easeL.length=4:=rfl
  rw [fmtK_eq]
  simp only [List.length_append,List.length_cons,List.length_nil] at h1 ⊢
  omega
section
variable {lim n:Nat}{H H':Hp}{K:V→Hp→Prop}{v d p u a b pv sv:V}{ws:List V}{c:Cp}
theorem capNil:CapV H [.snil,.snil,.int .i64 0] noC:=.mk (ps:=[]) ⟨.nil,rfl,fun i hi=>by simp at hi⟩ .nil
theorem surf_ParseK {T:List UInt8}(hg:HX glHp H)(hlim:lim≤H.length)(hK:∀H' ws',HX H H'→CapV H' ws' (prsK (rdK atV true (wds 10 T)) T).1→K (.tup [.agg ws',.int .i64 (prsK (rdK atV true (wds 10 T)) T).2]) H'):VCall tbl lim 9 [.str (bA T)] H K:=by
  refine VCall_fn tbl_at9 rfl ?_
  by_cases h4:4000<T.length
  · have h4':((4000:Int)<(T.length:Int))=True:=eq_true (by omega)
    rw [prsK_long h4] at hK
    simp [vf9,bA_size,h4',spl3,rdA3]
    exact hK H _ .refl capNil
  have h4':((4000:Int)<(T.length:Int))=False:=eq_false (by omega)
  simp [vf9,bA_size,h4']
  refine readLines_t hg (by omega) hlim fun H1 ws1 x1 hc => ?_
  replace x1:HX H H1:=x1
  have l1:=x1.len
  have hB:=rdK_B (num:=atV) (ev:=true) (T:=T) (by omega)
  obtain ⟨X,hX⟩:∃X,X=rdK atV true (wds 10 T):=⟨_,rfl⟩
  rw [←hX] at hK hc hB
  have hcc:=hc.cap
  obtain ⟨pv,sv,ps,rfl,-,-,z1,z2,z3,z4⟩:=hcc.form
  simp [z1,z2,z3,z4,spl3,rdA3]
  refine surf_Format hcc (by have:=hB.S;omega) (hg.trans x1) (by omega) fun H2 x2 => ?_
  replace x2:HX H1 H2:=x2
  by_cases he:capE X=0
  case neg =>
    rw [prsK_no h4 (fun h=>he h.1)] at hK
    simp [he,spl3,rdA3]
    exact hK H2 _ (x1.trans x2) capNil
  rw [txK,if_pos he,he]
  by_cases ha:fmtK X=T
  · rw [prsK_acc h4 ⟨he,ha⟩] at hK
    have hq:vbin .neq (.str (bA (fmtK X))) (.str (bA T))=some (.bool false):=by
      have:=vneq_bA (W:=fmtK X) (s:=bA T)
      rw [list_bA,decide_eq_true ha] at this
      exact this
    simp [hq,z1,z2,z3,z4,spl3,rdA3]
    exact hK H2 _ (x1.trans x2) (hcc.mono x2)
  · rw [prsK_no h4 (fun h=>ha h.2)] at hK
    have hq:vbin .neq (.str (bA (fmtK X))) (.str (bA T))=some (.bool true):=by
      have:=vneq_bA (W:=fmtK X) (s:=bA T)
      rw [list_bA,decide_eq_false ha] at this
      exact this
    simp [hq,spl3,rdA3]
    exact hK H2 _ (x1.trans x2) capNil
theorem r02_ParseK {T:List UInt8}(hlim:lim≤H.length)(hK:∀H' ws',HX H H'→CapV H' ws' (prsK (rdK numR false (wds 10 T)) T).1→K (.tup [.agg ws',.int .i64 (prsK (rdK numR false (wds 10 T)) T).2]) H'):VCall tbl lim 10 [.str (bA T)] H K:=by
  refine VCall_fn tbl_at10 rfl ?_
  by_cases h4:4000<T.length
  · have h4':((4000:Int)<(T.length:Int))=True:=eq_true (by omega)
    rw [prsK_long h4] at hK
    simp [vf10,bA_size,h4',spl3,rdA3]
    exact hK H _ .refl capNil
  have h4':((4000:Int)<(T.length:Int))=False:=eq_false (by omega)
  simp [vf10,bA_size,h4']
  refine words_r (c:=10) (by omega) (by rw [bA_size];omega) hlim fun H0 u x0 hu => ?_
  replace x0:HX H H0:=x0
  have l0:=x0.len
  rw [list_bA,show UInt8.ofNat 10=10 from rfl] at hu
  have hu0:=hu.lst
  clear hu
  have hB:=rdK_B (num:=numR) (ev:=false) (T:=T) (by omega)
  have wm:=wds_mem (c:=10) T
  have wl:=wds_len (c:=10) T
  obtain ⟨Xc,hXc⟩:∃X,X=rdK numR false (wds 10 T):=⟨_,rfl⟩
  rw [←hXc] at hK hB
  unfold rdK at hXc
  obtain ⟨Ls,hLs⟩:∃Ws,Ws=wds 10 T:=⟨_,rfl⟩
  rw [←hLs] at hXc wm wl hu0
  have hul:vlenS u=some (.int .i64 (Ls.length:Int)):=by rw [hu0.len];simp
  refine wLoop_up Ls.length (fun i fr L H'=>(fr 0=.str (bA T)∧fr 2=.lp 0 0∧fr 4=.lp 1 0∧fr 5=u∧fr 6=.int .i64 (i:Int))∧(∃pv sv P S e,L=[[.snil,.snil,.int .i64 0],[pv,sv,.int .i64 e]]∧HX H0 H'∧OCapV H0.length H' [pv,sv,.int .i64 e] ⟨P,S,e⟩∧(⟨P,S,e⟩:Cp)=(Ls.take i).foldl (Cp.take numR false) ⟨[],[],0⟩)∧i≤Ls.length) ⟨⟨by simp,by simp,by simp,by simp,by simp⟩,⟨.snil,.snil,[],[],0,by simp,.refl,.mk (ps:=[]) .nil .nil (fun k o z y o' z' y' h=>by cases h) (fun i hi=>by simp at hi),rfl⟩,by omega⟩ ?_
  rintro i hi fr L H1 ⟨⟨f0,f2,f4,f5,f6⟩,⟨pv,sv,P,S,e,rfl,x1,hc,hx⟩,hle⟩
  have l1:=x1.len
  obtain ⟨z1,z2,z3,z4⟩:=hc.vals
  by_cases hp:i<Ls.length
  · have hp':((i:Int)<(Ls.length:Int))=True:=eq_true (by omega)
    obtain ⟨ln,hln⟩:∃w,Ls[i]? = some w:=⟨_,List.getElem?_eq_getElem hp⟩
    have hnx:=take_line (num:=numR) (ev:=false) hln
    have hbd:=take_bd (num:=numR) (ev:=false) (Ls:=Ls) i
    rw [←hx] at hnx hbd
    simp only at hbd
    obtain ⟨d1,a1⟩:=str_at (hu0.mono x1) hln
    have hll:=wm ln (List.mem_of_getElem? hln)
    simp (disch:=omega) [f0,f2,f4,f5,f6,hul,hp',d1,a1,z1,z2,z3,z4,rdA3]
    refine take_r hc ⟨by omega,by omega⟩ (by omega) ⟨by omega,by omega⟩ fun H2 pv' sv' P' S' e' g1 g2 g3 g4 => ?_
    obtain ⟨w1,w2,w3,w4⟩:=g3.vals
    simp (disch:=omega) [f0,f2,f4,f5,f6,w1,w2,w3,w4,spl3,wrap_i64]
    exact ⟨hp,⟨_,_,_,_,_,⟨rfl,rfl,rfl⟩,g1 H0 x1 (Nat.le_refl _),g3,by rw [g4,hnx]⟩,hp⟩
  have hp':((i:Int)<(Ls.length:Int))=False:=eq_false (by omega)
  have hi2:i=Ls.length:=by omega
  subst hi2
  rw [List.take_length,←hXc] at hx
  subst hx
  have hcc:=hc.cap
  simp (disch:=omega) [f0,f2,f4,f5,f6,hul,hp',z1,z2,z3,z4,rdA3]
  refine r02_Format hcc ⟨by have:=hB.P;omega,by have:=hB.S;omega,fun q hq=>by have:=hB.p q hq;omega⟩ (by omega) fun H2 x2 => ?_
  replace x2:HX H1 H2:=x2
  have xx:=(x0.trans x1).trans x2
  by_cases he:capE ⟨P,S,e⟩=0
  case neg =>
    rw [prsK_no h4 (fun h=>he h.1)] at hK
    simp [he,f0,f2,spl3,rdA3]
    exact hK H2 _ xx capNil
  rw [txK,if_pos he,he]
  by_cases ha:fmtK ⟨P,S,e⟩=T
  · rw [prsK_acc h4 ⟨he,ha⟩] at hK
    have hq:vbin .neq (.str (bA (fmtK ⟨P,S,e⟩))) (.str (bA T))=some (.bool false):=by
      have:=vneq_bA (W:=fmtK ⟨P,S,e⟩) (s:=bA T)
      rw [list_bA,decide_eq_true ha] at this
      exact this
    simp [hq,f0,f2,f4,z1,z2,z3,z4,spl3,rdA3]
    exact hK H2 _ xx (hcc.mono x2)
  · rw [prsK_no h4 (fun h=>ha h.2)] at hK
    have hq:vbin .neq (.str (bA (fmtK ⟨P,S,e⟩))) (.str (bA T))=some (.bool true):=by
      have:=vneq_bA (W:=fmtK ⟨P,S,e⟩) (s:=bA T)
      rw [list_bA,decide_eq_false ha] at this
      exact this
    simp [hq,f0,f2,spl3,rdA3]
    exact hK H2 _ xx capNil
theorem law_CapTexts {s:ByteArray}(ha:CapA H ws c)(hg:HX glHp H)(hlim:lim≤H.length)(ht:s.size≤maxLen)(hK:∀H',K (.bool true) H'):VCall tbl lim 3 [.agg ws,.str s] H K:=by
  have hc:=ha.cap
  obtain ⟨pv,sv,ps,rfl,-,-,z1,z2,z3,z4⟩:=hc.form
  refine VCall_fn tbl_at3 rfl ?_
  simp [vf3,z1,z2,z3,z4,rdA3]
  refine l02_Long hc ?_
  by_cases hl1:longB c=true
  · rw [hl1]
    simp;refine cp_known hlim fun H1 _ => ?_;simp;exact hK H1
  have hl1:longB c=false:=by simpa using hl1
  have hsh:=short_of hl1
  rw [hl1]
  by_cases h5:5000<s.size
  · have h5':((5000:Int)<(s.size:Int))=True:=eq_true (by omega)
    simp [h5']
    refine cp_known hlim fun H1 _ => ?_;simp;exact hK H1
  have h5':((5000:Int)<(s.size:Int))=False:=eq_false (by omega)
  obtain ⟨T,rfl⟩:∃T,s=bA T:=⟨s.data.toList,bA_list.symm⟩
  have hsS:=hsh.ns
  have hsP:=hsh.np
  simp [h5',z1,z2,z3,z4,rdA3]
  refine surf_Format hc (by omega) hg hlim fun H1 x1 => ?_
  replace x1:HX H H1:=x1
  have l1:=x1.len
  simp [z1,z2,z3,z4,rdA3]
  refine r02_Format (hc.mono x1) ⟨by omega,by omega,fun q hq=>by have:=hsh.pc q hq;omega⟩ (by omega) fun H2 x2 => ?_
  replace x2:HX H1 H2:=x2
  have l2:=x2.len
  simp
  refine surf_ParseK ((hg.trans x1).trans x2) (by omega) fun H3 ws3 x3 hc3 => ?_
  replace x3:HX H2 H3:=x3
  have l3:=x3.len
  obtain ⟨pv3,sv3,ps3,rfl,-,-,u1,u2,u3,u4⟩:=hc3.form
  simp [u1,u2,u3,u4,spl3,rdA3]
  refine r02_ParseK (by omega) fun H4 ws4 x4 hc4 => ?_
  replace x4:HX H3 H4:=x4
  have l4:=x4.len
  rw [←prsK_both] at hc4 ⊢
  have hB:=prsK_B (num:=atV) (ev:=true) (T:=T)
  generalize prsK (rdK atV true (wds 10 T)) T=pp at hc3 hc4 hB u1 u2 u3 u4
  obtain ⟨pv4,sv4,ps4,rfl,-,-,v1,v2,v3,v4⟩:=hc4.form
  have vn:vbin .neq (.str (txK c)) (.str (txK c))=some (.bool false):=by simp [vbin]
  simp [u1,u2,u3,u4,v1,v2,v3,v4,spl3,rdA3,vn]
  refine r02_Same (c:=pp.1) (d:=pp.1) (hc3.mono x4) hc4 (Or.inr ⟨by have:=hB.P;omega,by have:=hB.S;omega,fun q hq=>by have:=hB.p q hq;omega⟩) ?_
  simp [same_refl]
  have xx:=((x1.trans x2).trans x3).trans x4
  by_cases he:capE c=0
  case neg =>
    simp [he]
    refine cp_known (by omega) fun H5 _ => ?_;simp;exact hK H5
  have hok:=capE_ok.1 he
  have hfl:=fmtK_len hok (by omega)
  have hrd:=rd_fmtK atV_ok (ev:=true) hok
  have hpr:prsK (rdK atV true (wds 10 (fmtK c))) (fmtK c)=(c,0):=by
    rw [hrd,prsK_acc (by omega) ⟨he,rfl⟩]
  have et:txK c=bA (fmtK c):=by unfold txK;rw [if_pos he]
  have hl4:((4000:Int)<((fmtK c).length:Int))=False:=eq_false (by omega)
  simp [he,et,bA_size,hl4]
  refine surf_ParseK (hg.trans xx) (by omega) fun H5 ws5 x5 hc5 => ?_
  replace x5:HX H4 H5:=x5
  have l5:=x5.len
  rw [hpr] at hc5 ⊢
  obtain ⟨pv5,sv5,ps5,rfl,-,-,w1,w2,w3,w4⟩:=hc5.form
  simp [w1,w2,w3,w4,spl3,rdA3,z1,z2,z3,z4]
  refine r02_Same (c:=c) (d:=c) hc5 (hc.mono (xx.trans x5)) (Or.inl hsh) ?_
  simp [same_refl]
  refine cp_known (by first | exact Nat.le_refl _ | omega) fun H7 _ => ?_
  simp
  exact hK H7
end
end Go.Proofs.YtgjlhdggllakbaaGreatDoor.Vm
namespace Go.Proofs.YtgjlhdggllakbaaGreatDoor.Vm
open Go Go.RowKit Go.ChangeShapes
set_option linter.unusedVariables false
set_option linter.unusedSimpArgs false
set_option maxRecDepth 100000
attribute [-simp] List.getD_eq_getElem?_getD
theorem Good.obj {ρ:Loc}{w:World}{k:Nat}(G:Good ρ (glHp.take k) w)(hU:GUp ρ k)(hk:k<glMap.length)(he:glMap[k]=(none,[])){r o:Nat}{C:Array Value}{el:TypeId}{fz:Nat×Nat}(h1:w.heap[r]? = some (.cells C el fz))(h2:o≤C.size) :
    ∃ρ',Good ρ' (glHp.take (k+1)) w∧GUp ρ' (k+1)∧(∀b y,ρ b=some y→ρ' b=some y)∧ρ' k=some (r,o,0):=by
  obtain ⟨ρ',_,a2,a3,a4⟩:=G.row (cap:=0) (cs:=[]) (o:=o) h1 (by omega) (Nat.le_refl _) (fun i hi=>by simp at hi)
  have hl:(glHp.take k).length=k:=by rw [List.length_take,glHp_len];omega
  have ht:=glHp_take hk
  rw [he] at ht
  rw [←ht] at a2
  rw [hl] at a4
  refine ⟨ρ',a2,fun j g cs hj e => ?_,a3,a4⟩
  by_cases hjk:j=k
  · subst hjk
    rw [List.getElem?_eq_getElem hk,he] at e
    cases e
  · exact a3 _ _ (hU j g cs (by omega) e)
theorem var_heap {P:Program}{W:World}{name:String}{g:Nat}{cs:Array Value}(hg:P.globalNamed name=some g)(hv:W.var? P name=some cs):∃el fz,W.heap[g]? = some (.cells cs el fz):=by
  simp only [World.var?,hg,Option.bind_some] at hv
  split at hv<;>simp_all
theorem cell_heap {W:World}{a:Addr}{v:Value}(h:W.cell? a=some v):a=⟨a.block,a.off,none⟩∧∃C el fz,W.heap[a.block]? = some (.cells C el fz)∧a.off≤C.size:=by
  unfold World.cell? at h
  split at h
  case h_2=>cases h
  rename_i C el fz hb
  split at h
  · cases h
  rename_i hs
  refine ⟨?_,C,el,fz,hb,Nat.le_of_lt (Array.getElem?_eq_some_iff.1 h).1⟩
  obtain ⟨b,o,s⟩:=a
  cases s with
  | none=>rfl
  | some x=>simp at hs
theorem row1_at {ρ:Loc}{t:TypeId}{b:Nat}{x:Value}(h:VR ρ (.ptr b 0) x):RowAt ρ [.iface t (.ptr b 0)] #[.iface t x] 0:=by
  intro i hi
  have:i=0:=by simp at hi;omega
  subst this
  exact ⟨.iface h,rfl⟩
def laidT:List (String×DataW Unit):=[("math/bits.deBruijn32tab",Rows.laid_math_bits_deBruijn32tab),("math/bits.deBruijn64tab",Rows.laid_math_bits_deBruijn64tab),("internal/strconv.uint64pow10",Rows.laid_internal_strconv_uint64pow10),("unicode/utf8.acceptRanges",Rows.laid_unicode_utf8_acceptRanges),("strconv.ErrRange",Rows.laid_strconv_ErrRange),("strconv.ErrSyntax",Rows.laid_strconv_ErrSyntax),("unicode/utf8.first",Rows.laid_unicode_utf8_first)]
theorem starE : "*" ++ "errors.errorString" = "*errors.errorString" := by decide
theorem rowE (u:TypeId)(h:Tryz.prog.typeName? 3 u=some "*errors.errorString"):u=171 :=
  typeName_ptr_named (nm := "errors.errorString") (by rw [starE];kernel_rfl) (by kernel_rfl) (by decide) u (by rw [starE];exact h)
def pow10R:List V:=(List.range 20).map fun i=>.int .u64 (10 ^ i:Nat)
theorem glMap_eq:glMap=[(some 2,pow10R),(none,[]),(none,[]),(some 0,[.iface 171 (.ptr 1 0)]),(some 1,[.iface 171 (.ptr 2 0)])]:=by kernel_rfl
theorem tx_start {W:World}(h:laidMetH Tryz.prog laidT W):∃ρ,Good ρ glHp W∧GRel ρ:=by
  rw [MakeChecks.laidMetH_plain _ _ _ (by kernel_rfl)] at h
  have hgp:Tryz.prog.globalNamed "internal/strconv.uint64pow10" = some 2:=by kernel_rfl
  have hgR:Tryz.prog.globalNamed "strconv.ErrRange" = some 1:=by kernel_rfl
  have hgS:Tryz.prog.globalNamed "strconv.ErrSyntax" = some 0:=by kernel_rfl
  have h3:=laidMet.tail (laidMet.tail h)
  have h5:=laidMet.tail (laidMet.tail h3)
  have h6:=laidMet.tail h5
  obtain ⟨ps,⟨g',t',cs,fuel,p,q,hg',ht',hv,htr,_,_⟩,_⟩:=h3
  obtain rfl:=Option.some.inj (hgp.symm.trans hg')
  have eT:(Tryz.prog.globals[2]?).map (·.type)=some 166:=by kernel_rfl
  obtain rfl:=Option.some.inj (eT.symm.trans ht')
  have hlf:leaf Tryz.prog 8 166 Rows.laid_internal_strconv_uint64pow10 0=some ((List.range pow10R.length).zip pow10R):=by kernel_rfl
  obtain ⟨el1,fz1,a1,a2,a3⟩:=flat_var hgp hlf hv htr
  obtain ⟨aR,sR,vR,cR,_,_⟩:=laid_sentinel (tp:=171) (te:=173) (ts:=9) h5 hgR (ti:=81) (by kernel_rfl) Tryz.underlying81 rowE Tryz.underlying171 Tryz.underlying173 rfl rfl Tryz.underlying9 (by kernel_rfl) (by kernel_rfl)
  obtain ⟨aS,sS,vS,cS,_,_⟩:=laid_sentinel (tp:=171) (te:=173) (ts:=9) h6 hgS (ti:=81) (by kernel_rfl) Tryz.underlying81 rowE Tryz.underlying171 Tryz.underlying173 rfl rfl Tryz.underlying9 (by kernel_rfl) (by kernel_rfl)
  obtain ⟨elR,fzR,bR⟩:=var_heap hgR vR
  obtain ⟨elS,fzS,bS⟩:=var_heap hgS vS
  obtain ⟨eR,CR,tR,zR,oR,lR⟩:=cell_heap cR
  obtain ⟨eS,CS,tS,zS,oS,lS⟩:=cell_heap cS
  have hlen:glMap.length=5:=by rw [glMap_eq];rfl
  have e0:glMap[0]'(by omega)=(some 2,pow10R):=by simp only [glMap_eq];rfl
  have e1:glMap[1]'(by omega)=(none,[]):=by simp only [glMap_eq];rfl
  have e2:glMap[2]'(by omega)=(none,[]):=by simp only [glMap_eq];rfl
  have e3:glMap[3]'(by omega)=(some 0,[.iface 171 (.ptr 1 0)]):=by simp only [glMap_eq];rfl
  have e4:glMap[4]'(by omega)=(some 1,[.iface 171 (.ptr 2 0)]):=by simp only [glMap_eq];rfl
  have G0:Good (fun _=>none) (glHp.take 0) W:=Good.start
  obtain ⟨ρ1,c1,u1,m1,_⟩:=Good.var G0 (fun k _ _ hk=>absurd hk (by omega)) (k:=0) (by omega) a1 (by rw [e0];exact a2) (by rw [e0];exact a3 _) (fun g' e=>by rw [e0] at e;exact (Option.some.inj e).symm)
  obtain ⟨ρ2,c2,u2,m2,q2⟩:=Good.obj c1 u1 (by omega) e1 oS lS
  obtain ⟨ρ3,c3,u3,m3,q3⟩:=Good.obj c2 u2 (by omega) e2 oR lR
  have vS2:VR ρ3 (.ptr 1 0) (.pointer (some aS)):=by
    rw [eS];exact .ptr (m3 _ _ q2)
  have vR2:VR ρ3 (.ptr 2 0) (.pointer (some aR)):=by
    rw [eR];exact .ptr q3
  obtain ⟨ρ4,c4,u4,m4,_⟩:=Good.var c3 u3 (k:=3) (by omega) bS (by rw [e3];exact Nat.le_refl 1) (by rw [e3];exact row1_at vS2) (fun g' e=>by rw [e3] at e;exact (Option.some.inj e).symm)
  obtain ⟨ρ5,c5,u5,m5,_⟩:=Good.var c4 u4 (k:=4) (by omega) bR (by rw [e4];exact Nat.le_refl 1) (by rw [e4];exact row1_at (vR2.mono m4)) (fun g' e=>by rw [e4] at e;exact (Option.some.inj e).symm)
  rw [show (4+1)=glMap.length by omega] at c5 u5
  exact Good.vars c5 u5
noncomputable def witT (os:Os):World:=World.laidAll Tryz.prog os laidT
theorem witT_met (os:Os)(args:Array Value):laidMetH Tryz.prog laidT ((witT os).forCall (fun _ _=>0) ⟨#[],args,[]⟩).memory:=by
  rw [MakeChecks.laidMetH_plain _ _ _ (by kernel_rfl)]
  exact laidMet_laidAll _ (by kernel_rfl) (by kernel_rfl)
theorem witT_shaped (os:Os):(witT os).Shaped Tryz.prog:=World.shaped_of_ZipB (by kernel_rfl) (by kernel_rfl)
end Go.Proofs.YtgjlhdggllakbaaGreatDoor.Vm

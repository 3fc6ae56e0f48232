/- errors.As at a value's type: Go's text walked, and the function as hand-written slim code. -/
import Derived.Test.YtiilicnmcpjmkaaGreatDoorVmHand
import Derived.Test.YtiilicnmcpjmkaaGreatDoorChecked
import Derived.WalkKit
import Derived.LaidEql
import Derived.Stop.Asserts
import Derived.RowKitTokens
namespace Go.Proofs.YtiilicnmcpjmkaaGreatDoor.Vm
open Go Go.RowKit Go.Extern.Stop Go.Stop Go.Extern
set_option maxRecDepth 100000
set_option linter.unusedSimpArgs false
set_option linter.unusedVariables false
theorem as_nil (t:Value)(w:World) :
    Calls Tryz.prog 26 #[.nilIface,t] w fun e w'=>e=.returned (.bool false)∧w'=w:=by
  go_enter Tryz.func26,Tryz.ntmps26
  go_wp2
  go_ret
  exact ⟨rfl,rfl⟩
theorem as_valueOfP (t:Addr)(w:World):(ReflectliteValue.unpack (.iface 63 (.pointer (some t)))).run Tryz.prog w
    = .ok (.agg #[.pointer (some ⟨9,63,none⟩),.pointer (some ⟨w.heap.size,0,none⟩),.int .u64 150]) (w.alloc (.cells #[.pointer (some t)] 63)):=by kernel_rfl
theorem as_typeP (a:Addr)(w:World):(ReflectliteValue.methodAny (ReflectliteValue.valueError "reflectlite.Value.Type" 0) (fun t _ _ _=>ReflectliteType.toType t) #[.agg #[.pointer (some ⟨9,63,none⟩),.pointer (some a),.int .u64 150]]).run Tryz.prog w
    = .ok (.iface 111 (.agg #[.pointer (some ⟨9,63,none⟩)])) w:=by kernel_rfl
theorem as_methodKind (h:Value)(w:World):(Go.method 314 111 (.agg #[h]) "Kind").run Tryz.prog w=.ok (141,h) w:=by kernel_rfl
theorem as_kindP (w:World):((ReflectliteType.abiMethod fun t=>(fun a:Nat=>Value.int IntKind.u8 (a:Int)) <$> Rtype.kind t) #[.pointer (some ⟨9,63,none⟩)]).run Tryz.prog w=.ok (.int .u8 22) w:=by kernel_rfl
theorem as_kindR (w:World):((ReflectliteType.abiMethod fun t=>(fun a:Nat=>Value.int IntKind.u8 (a:Int)) <$> Rtype.kind t) #[.pointer (some ⟨9,61,none⟩)]).run Tryz.prog w=.ok (.int .u8 25) w:=by kernel_rfl
theorem as_rlm (z:Sem Value)(f:TypeId→Addr→Nat→Nat→Sem Value)(v:Value) :
    ReflectliteValue.method z f #[v]=(do match ←ReflectliteValue.parts v with | none=>z | some (t,a,fl)=>f t a fl (fl % 32)):=rfl
theorem as_partsP (a:Addr)(w:World):(ReflectliteValue.parts (.agg #[.pointer (some ⟨9,63,none⟩),.pointer (some a),.int .u64 150])).run Tryz.prog w=.ok (some (63,a,150)) w:=by kernel_rfl
theorem as_isNilP (a p:Addr)(W:World)(ha:W.cell? a=some (.pointer (some p))) :
    (ReflectliteValue.method (ReflectliteValue.valueError "reflectlite.Value.IsNil" 0) ReflectliteValue.isNil #[.agg #[.pointer (some ⟨9,63,none⟩),.pointer (some a),.int .u64 150]]).run Tryz.prog W=.ok (.bool false) W:=by
  rw [as_rlm]
  simp only [Sem.run_bind,as_partsP,Result.andThen]
  simp [ReflectliteValue.isNil,loadVar,isAgg,underlying,Tryz.underlying63,ha,Result.andThen]
theorem as_methodElem (h:Value)(w:World):(Go.method 314 111 (.agg #[h]) "Elem").run Tryz.prog w=.ok (151,.agg #[h]) w:=by kernel_rfl
theorem as_methodImplements (h:Value)(w:World):(Go.method 314 111 (.agg #[h]) "Implements").run Tryz.prog w=.ok (152,.agg #[h]) w:=by kernel_rfl
theorem as_methodAssignableTo (h:Value)(w:World):(Go.method 314 111 (.agg #[h]) "AssignableTo").run Tryz.prog w=.ok (149,.agg #[h]) w:=by kernel_rfl
theorem as_elemP (w:World):(ReflectliteType.method ReflectliteType.elem #[.agg #[.pointer (some ⟨9,63,none⟩)]]).run Tryz.prog w=.ok (.iface 111 (.agg #[.pointer (some ⟨9,61,none⟩)])) w:=by kernel_rfl
theorem as_implementsR (w:World):(ReflectliteType.relation "Implements" ReflectliteType.implements_ #[.agg #[.pointer (some ⟨9,61,none⟩)],.iface 111 (.agg #[.pointer (some ⟨9,57,none⟩)])]).run Tryz.prog w=.ok (.bool true) w:=by kernel_rfl
theorem as_typeOfR (v:Value)(w:World):(ReflectliteType.typeOf #[.iface 61 v]).run Tryz.prog w=.ok (.iface 111 (.agg #[.pointer (some ⟨9,61,none⟩)])) w:=by kernel_rfl
theorem as_assignableR (w:World):(ReflectliteType.relation "AssignableTo" ReflectliteType.assignableTo #[.agg #[.pointer (some ⟨9,61,none⟩)],.iface 111 (.agg #[.pointer (some ⟨9,61,none⟩)])]).run Tryz.prog w=.ok (.bool true) w:=by kernel_rfl
theorem as_valueOfR (s:ByteArray)(w:World):(ReflectliteValue.unpack (.iface 61 (.agg #[.string s]))).run Tryz.prog w
    = .ok (.agg #[.pointer (some ⟨9,61,none⟩),.pointer (some ⟨w.heap.size,0,none⟩),.int .u64 153]) (w.alloc (.cells #[.string s] 61)):=by kernel_rfl
theorem as_elemOfP (w:World):(Rtype.elem? 63).run Tryz.prog w=.ok (some 61) w:=by kernel_rfl
theorem as_mkR (p:Addr)(w:World):(ReflectliteValue.mk 61 p ReflectliteValue.flagAddr).run Tryz.prog w=.ok (.agg #[.pointer (some ⟨9,61,none⟩),.pointer (some p),.int .u64 409]) w:=by kernel_rfl
theorem as_elemVP (a p:Addr)(W:World)(ha:W.cell? a=some (.pointer (some p))) :
    (ReflectliteValue.method (ReflectliteValue.valueError "reflectlite.Value.Elem" 0) ReflectliteValue.elem #[.agg #[.pointer (some ⟨9,63,none⟩),.pointer (some a),.int .u64 150]]).run Tryz.prog W
      = .ok (.agg #[.pointer (some ⟨9,61,none⟩),.pointer (some p),.int .u64 409]) W:=by
  rw [as_rlm]
  simp only [Sem.run_bind,as_partsP,Result.andThen]
  simp [ReflectliteValue.elem,loadVar,isAgg,underlying,Tryz.underlying63,ha,Result.andThen,as_elemOfP,as_mkR]
theorem as_rls (v x:Value):ReflectliteValue.set #[v,x]=(do
    let (some (dst,a,fl),some (src,b,_)):=(←ReflectliteValue.parts v,←ReflectliteValue.parts x)
      | unsupported (.noEntry "extern/(internal/reflectlite.Value).Set.zeroValue")
    if fl / ReflectliteValue.flagAddr % 2==0 then unsupported (.noEntry "extern/(internal/reflectlite.Value).Set.unaddressable")
    let val ←loadVar src b
    if ←Rtype.directlyAssignable dst src then storeVar dst a val
    else if ←Rtype.implements dst src then
      if (←Rtype.kind src)==20 then
        match val with
        | .nilIface=>unsupported (.noEntry "extern/reflectlite: a nil value of one interface type handed on as a value of another")
        | _=>storeVar dst a val
      else storeVar dst a (.iface src val)
    else panicString ("reflectlite.Set: value of type " ++ (←Rtype.spelt src) ++ " is not assignable to type " ++ (←Rtype.spelt dst))
    pure (.tuple #[])):=rfl
theorem as_partsRa (a:Addr)(w:World):(ReflectliteValue.parts (.agg #[.pointer (some ⟨9,61,none⟩),.pointer (some a),.int .u64 409])).run Tryz.prog w=.ok (some (61,a,409)) w:=by kernel_rfl
theorem as_partsR (a:Addr)(w:World):(ReflectliteValue.parts (.agg #[.pointer (some ⟨9,61,none⟩),.pointer (some a),.int .u64 153])).run Tryz.prog w=.ok (some (61,a,153)) w:=by kernel_rfl
theorem as_directR (w:World):(Rtype.directlyAssignable 61 61).run Tryz.prog w=.ok true w:=by kernel_rfl
theorem as_loadR (b:Nat)(s:ByteArray)(W:World)(hb:W.cell? ⟨b,0,none⟩=some (.string s)):(loadVar 61 ⟨b,0,none⟩).run Tryz.prog W=.ok (.agg #[.string s]) W:=by
  have hz:(sizeOf 61).run Tryz.prog W=.ok 1 W:=by kernel_rfl
  have ha:(isAgg 61).run Tryz.prog W=.ok true W:=by kernel_rfl
  have hl:(load ⟨b,0,none⟩).run Tryz.prog W=.ok (.string s) W:=by simp [hb]
  simp [loadVar,ha,hz,loadCells,loadCellsFrom,Addr.add,hl,Result.andThen]
theorem as_storeR (ta:Addr)(s:ByteArray)(old:Value)(W:World)(ht:W.cell? ta=some old)(hf:W.frozen? ta=false):(storeVar 61 ta (.agg #[.string s])).run Tryz.prog W=.ok () (W.setCell ta (.string s)):=by
  have hz:(sizeOf 61).run Tryz.prog W=.ok 1 W:=by kernel_rfl
  simp [storeVar,Value.cells,storeCells,Addr.add,hz]
  rw [run_store Tryz.prog W ta _ _ (by rfl)]
  simp [ht,hf]
theorem as_setR (ta:Addr)(b:Nat)(s:ByteArray)(old:Value)(W:World)(hb:W.cell? ⟨b,0,none⟩=some (.string s))(ht:W.cell? ta=some old)(hf:W.frozen? ta=false) :
    (ReflectliteValue.set #[.agg #[.pointer (some ⟨9,61,none⟩),.pointer (some ta),.int .u64 409],.agg #[.pointer (some ⟨9,61,none⟩),.pointer (some ⟨b,0,none⟩),.int .u64 153]]).run Tryz.prog W
      = .ok (.tuple #[]) (W.setCell ta (.string s)):=by
  rw [as_rls]
  simp only [Sem.run_bind,as_partsRa,as_partsR,Result.andThen]
  simp [ReflectliteValue.flagAddr,as_loadR b s W hb,Result.andThen,as_directR,as_storeR ta s old W ht hf]
def asW (w:World)(t:Addr)(s:ByteArray):World:=(((w.alloc (.cells #[.pointer (some t)] 63)).alloc (.cells #[.pointer (some ⟨9,63,none⟩),.pointer (some ⟨w.heap.size,0,none⟩),.int .u64 150] 89)).alloc (.cells #[.pointer (some ⟨9,63,none⟩),.pointer (some ⟨w.heap.size,0,none⟩),.int .u64 150] 89)).alloc (.cells #[.string s] 61)
set_option maxHeartbeats 4000000 in
theorem as_hit (s:ByteArray)(t:Addr)(old:Value)(w:World)(hg:w.cell? ⟨0,0,none⟩=some (.iface 111 (.agg #[.pointer (some ⟨9,57,none⟩)])))(ht0:w.cell? t=some old)(hf0:w.frozen? t=false) :
    Calls Tryz.prog 26 #[.iface 61 (.agg #[.string s]),.iface 63 (.pointer (some t))] w fun ev w'=>ev=.returned (.bool true)∧w'=(asW w t s).setCell t (.string s):=by
  have h6:=@run_callFunc_extern Tryz.prog 51 _ (fun args=>ReflectliteValue.unpack (args.getD 0 (.tuple #[]))) Tryz.func51 (by kernel_rfl) (by kernel_rfl) (by kernel_rfl) (by kernel_rfl)
  have h7:=@run_callFunc_extern Tryz.prog 52 _ (ReflectliteValue.methodAny (ReflectliteValue.valueError "reflectlite.Value.Type" 0) (fun t _ _ _=>ReflectliteType.toType t)) Tryz.func52 (by kernel_rfl) (by kernel_rfl) (by kernel_rfl) (by kernel_rfl)
  have h8:=@run_callFunc_extern Tryz.prog 53 _ (ReflectliteValue.method (ReflectliteValue.valueError "reflectlite.Value.IsNil" 0) ReflectliteValue.isNil) Tryz.func53 (by kernel_rfl) (by kernel_rfl) (by kernel_rfl) (by kernel_rfl)
  have h27:=@run_callFunc_extern Tryz.prog 141 _ (ReflectliteType.abiMethod fun t=>do pure (.int .u8 (←Rtype.kind t))) Tryz.func141 (by kernel_rfl) (by kernel_rfl) (by kernel_rfl) (by kernel_rfl)
  have h37:=@run_callFunc_extern Tryz.prog 151 _ (ReflectliteType.method ReflectliteType.elem) Tryz.func151 (by kernel_rfl) (by kernel_rfl) (by kernel_rfl) (by kernel_rfl)
  have h38:=@run_callFunc_extern Tryz.prog 152 _ (ReflectliteType.relation "Implements" ReflectliteType.implements_) Tryz.func152 (by kernel_rfl) (by kernel_rfl) (by kernel_rfl) (by kernel_rfl)
  have h10:=@run_callFunc_extern Tryz.prog 69 _ ReflectliteType.typeOf Tryz.func69 (by kernel_rfl) (by kernel_rfl) (by kernel_rfl) (by kernel_rfl)
  have h35:=@run_callFunc_extern Tryz.prog 149 _ (ReflectliteType.relation "AssignableTo" ReflectliteType.assignableTo) Tryz.func149 (by kernel_rfl) (by kernel_rfl) (by kernel_rfl) (by kernel_rfl)
  have h11:=@run_callFunc_extern Tryz.prog 70 _ (ReflectliteValue.method (ReflectliteValue.valueError "reflectlite.Value.Elem" 0) ReflectliteValue.elem) Tryz.func70 (by kernel_rfl) (by kernel_rfl) (by kernel_rfl) (by kernel_rfl)
  have h12:=@run_callFunc_extern Tryz.prog 71 _ ReflectliteValue.set Tryz.func71 (by kernel_rfl) (by kernel_rfl) (by kernel_rfl) (by kernel_rfl)
  have tO:=as_typeOfR
  have mA:=as_methodAssignableTo
  have aR:=as_assignableR
  have vR:=as_valueOfR
  have f6:=as_valueOfP
  have f7:=as_typeP
  have mK:=as_methodKind
  have mE:=as_methodElem
  have mI:=as_methodImplements
  have kP:=as_kindP
  have kR:=as_kindR
  have eP:=as_elemP
  have iR:=as_implementsR
  have n8:=as_isNilP ⟨w.heap.size,0,none⟩ t ((w.alloc (.cells #[.pointer (some t)] 63)).alloc (.cells #[.pointer (some ⟨9,63,none⟩),.pointer (some ⟨w.heap.size,0,none⟩),.int .u64 150] 89)) (by simp)
  have hlt:0<w.heap.size:=by
    rcases Nat.eq_zero_or_pos w.heap.size with h0 | h
    · simp [World.cell?,h0] at hg
    · exact h
  have hg2:((w.alloc (.cells #[.pointer (some t)] 63)).alloc (.cells #[.pointer (some ⟨9,63,none⟩),.pointer (some ⟨w.heap.size,0,none⟩),.int .u64 150] 89)).cell? ⟨0,0,none⟩=some (.iface 111 (.agg #[.pointer (some ⟨9,57,none⟩)])):=by
    rw [World.cell?_alloc_lt _ _ ⟨0,0,none⟩ (by simp),World.cell?_alloc_lt _ _ ⟨0,0,none⟩ hlt];exact hg
  have htl:t.block<w.heap.size:=by
    rcases Nat.lt_or_ge t.block w.heap.size with h | h
    · exact h
    · simp [World.cell?,Array.getElem?_eq_none h] at ht0
  have el:=as_elemVP ⟨w.heap.size,0,none⟩ t (((w.alloc (.cells #[.pointer (some t)] 63)).alloc (.cells #[.pointer (some ⟨9,63,none⟩),.pointer (some ⟨w.heap.size,0,none⟩),.int .u64 150] 89)).alloc (.cells #[.pointer (some ⟨9,63,none⟩),.pointer (some ⟨w.heap.size,0,none⟩),.int .u64 150] 89)) (by rw [World.cell?_alloc_lt _ _ ⟨w.heap.size,0,none⟩ (by simp;omega)];simp)
  have st:=as_setR t (w.heap.size+1+1+1) s old (asW w t s)
    (by unfold asW;rw [World.cell?_alloc_at _ _ _ _ (by simp)];rfl)
    (by unfold asW;rw [World.cell?_alloc_lt _ _ t (by simp;omega),World.cell?_alloc_lt _ _ t (by simp;omega),World.cell?_alloc_lt _ _ t (by simp;omega),World.cell?_alloc_lt _ _ t htl];exact ht0)
    (by unfold asW;rw [World.frozen?_alloc_old _ _ t (by simp;omega),World.frozen?_alloc_old _ _ t (by simp;omega),World.frozen?_alloc_old _ _ t (by simp;omega),World.frozen?_alloc_old _ _ t (Nat.ne_of_lt htl)];exact hf0)
  unfold asW at st ⊢
  go_enter Tryz.func26,Tryz.ntmps26
  go_wp2
  refine wp_loop_rounds 1 ?_
  rw [rounds_succ]
  go_wp2
  go_ret
  exact ⟨rfl,rfl⟩
open Classical in
noncomputable def asQ (vs:List V)(H:List Blk):Bool:=decide ((∃own,H[5]? = some (.row [.opq (.iface 111 (.agg #[.pointer (some ⟨9,57,none⟩)]))] own))∧∃s b off,vs=[.iface 61 (.agg [.str s]),.iface 63 (.ptr b off)])
noncomputable def vf26:VFn:=⟨2,[.tmp 3],.seq (.reg [⟨some 2,.x (.inilT false) [.t 0],none,[]⟩]) (.cond (.t 2) (.reg [⟨some 3,.move (.c (.bool false)),none,[]⟩])
  (.reg [⟨none,.x (.ask asQ) [.t 0,.t 1],none,[]⟩,⟨some 4,.x (.unI 63) [.t 1],none,[]⟩,⟨some 5,.x (.unI 61) [.t 0],none,[]⟩,⟨some 6,.field 0 none (.t 5),none,[]⟩,⟨none,.store 1 (.t 4) (.t 6),none,[]⟩,⟨some 3,.move (.c (.bool true)),none,[]⟩]))⟩
theorem as_run {call:CallFn}{n lim:Nat}{x y:V}{H:Hp}{v:V}{s:St}{e:VExit}(he:evCode call lim n vf26.body ⟨fr0 [x,y],[],H⟩=some (e,s))(hv:vres vf26.results s.fr s.L s.H=some v) :
    (x=.inil∧v=.bool false∧s.H=H)∨∃t b off,asQ [x,y] H=true∧x=.iface 61 (.agg [.str t])∧y=.iface 63 (.ptr b off)∧v=.bool true∧vstoreH lim H b off [.str t]=some s.H:=by
  obtain ⟨n,rfl⟩:∃m,n=m+2:=by
    rcases n with _ | _ | n
    · simp [evCode] at he
    · simp [evCode,vf26] at he
    · exact ⟨n,rfl⟩
  have g0:fr0 [x,y] 0=x:=rfl
  have g1:fr0 [x,y] 1=y:=rfl
  simp only [vf26,evCode,evOps,evStep,evVal,wanted,if_true,evOp,opds,opd,g0,putD,evX,vinilT] at he
  cases x with
  | inil =>
    left
    simp only [optH,Bool.not_false] at he
    have u:upd (fr0 [V.inil,y]) 2 (.bool true) 2=.bool true:=by simp [upd]
    rw [u] at he
    rcases n with _ | n
    · simp [evCode] at he
    simp [evCode,evOps,evStep,evVal,wanted,evOp,opd,putD] at he
    obtain ⟨_,rfl⟩:=he
    simp [vres,resVs,resV,vf26,upd,stor] at hv
    exact ⟨rfl,hv.symm,rfl⟩
  | iface t v0 =>
    right
    simp only [optH] at he
    have u:upd (fr0 [V.iface t v0,y]) 2 (.bool false) 2=.bool false:=by simp [upd]
    rw [u] at he
    rcases n with _ | n
    · simp [evCode] at he
    have u0:upd (fr0 [V.iface t v0,y]) 2 (.bool false) 0=.iface t v0:=by simp [upd,fr0]
    have u1:upd (fr0 [V.iface t v0,y]) 2 (.bool false) 1=y:=by simp [upd,fr0]
    simp only [evCode,evOps,evStep,evVal,wanted,if_true,evOp,opds,opd,u0,u1,putD,evX] at he
    by_cases hq:asQ [.iface t v0,y] H=true
    case neg=>simp [hq] at he
    have hq2:=hq
    simp only [asQ,decide_eq_true_eq] at hq2
    obtain ⟨_,s',b,off,e1⟩:=hq2
    simp only [List.cons.injEq,and_true] at e1
    obtain ⟨e1,rfl⟩:=e1
    cases e1
    simp only [hq,if_true,u0,u1,vunI,optH,upd,pureV,vfield,rd] at he
    simp [vstore,stor,cellsV,rd,dv] at he
    cases hst:vstoreH lim H b off [.str s'] with
    | none=>simp [hst] at he
    | some H1 =>
      simp [hst] at he
      obtain ⟨_,rfl⟩:=he
      simp [vres,resVs,resV,vf26,upd,stor] at hv
      exact ⟨s',b,off,hq,rfl,rfl,hv.symm,hst⟩
  | _=>simp [optH] at he
theorem as_vrs2 {ρ:Loc}{x y:V}{xs:Array Value}(h:VRs ρ [x,y] xs.toList):∃a b,xs=#[a,b]∧VR ρ x a∧VR ρ y b:=by
  obtain ⟨l⟩:=xs
  obtain ⟨h1,h2⟩:=h
  match l,h1 with
  | [a,b],_=>exact ⟨a,b,rfl,h2 0 (by simp),h2 1 (by simp)⟩
theorem as_agg1 {ρ:Loc}{t:ByteArray}{x:Value}(h:VR ρ (.agg [.str t]) x):x=.agg #[.string t]:=by
  cases h with
  | agg h1 h2 h3 =>
    rename_i cs'
    obtain ⟨l⟩:=cs'
    match l,h1 with
    | [a],_ =>
      have:=h2 0 (by simp)
      simp at this
      cases this
      rfl
theorem as_gl:glMap[5]? = some (some 0,[.opq (.iface 111 (.agg #[.pointer (some ⟨9,57,none⟩)]))]):=by kernel_rfl
theorem hok26:HandOk Tryz.prog 26 vf26:=by
  refine ⟨by kernel_rfl,fun call n lim args H v s e hcall hc hlen he hee hv ρ w xs hH hG hxs hfR => ?_⟩
  obtain ⟨x,y,rfl⟩:∃x y,args=[x,y]:=by
    match args,hlen with
    | [x,y],_=>exact ⟨x,y,rfl⟩
  obtain ⟨a,b,rfl,ha,hb⟩:=as_vrs2 hxs
  rcases as_run he hv with ⟨rfl,rfl,hs⟩ | ⟨t,bk,off,hq,rfl,rfl,rfl,hst⟩
  · cases ha
    rw [hs]
    refine (as_nil b w).mono ?_
    rintro e w' ⟨rfl,rfl⟩
    exact ⟨_,ρ,rfl,.bool _,Grow.refl,hH⟩
  · cases ha with
    | iface ha =>
    cases as_agg1 ha
    cases hb with
    | iface hb =>
    cases hb with
    | ptr hρ =>
    rename_i r o c
    simp only [asQ,decide_eq_true_eq] at hq
    obtain ⟨⟨own,h5⟩,_⟩:=hq
    have hρ5:=hG 5 0 _ as_gl
    obtain ⟨C,el,fz,c1,c2,c3,c4,c5⟩:=hH.row 5 0 0 _ _ own hρ5 h5
    have hC:0<C.size:=by simp at c2;omega
    have hcell:w.cell? ⟨0,0,none⟩=some (.iface 111 (.agg #[.pointer (some ⟨9,57,none⟩)])):=by
      have:=(c5 0 (by simp)).1
      rw [Nat.zero_add,Array.getD_eq_getD_getElem?,Array.getElem?_eq_getElem hC] at this
      simp only [List.getD_cons_zero,Option.getD_some] at this
      generalize hy:C[0]=y0 at this
      cases this
      simp [World.cell?,c1,hC,hy]
    have hbr:∃cs,H[bk]? = some (.row cs true)∧off<cs.length:=by
      have hv:=hst
      unfold vstoreH at hv
      split at hv
      case isFalse=>cases hv
      split at hv
      case h_2=>cases hv
      rename_i cs hb
      split at hv
      case isFalse=>cases hv
      rename_i hle
      exact ⟨cs,hb,by simp at hle;omega⟩
    obtain ⟨cs,hbr,hoff⟩:=hbr
    obtain ⟨y0,k1,k2,k3⟩:=cell_own hH hbr hoff hρ
    obtain ⟨g,r1⟩:=store_own hH hst hρ (.str t) rfl
    have hrl:r<w.heap.size:=hH.dom bk r o c hρ
    refine (as_hit t ⟨r,o+off,none⟩ y0 w hcell k1 k3).mono ?_
    rintro e w' ⟨rfl,rfl⟩
    have e1:(asW w ⟨r,o+off,none⟩ t).setCell ⟨r,o+off,none⟩ (.string t)=((((w.setCell ⟨r,o+off,none⟩ (.string t)).alloc (.cells #[.pointer (some ⟨r,o+off,none⟩)] 63)).alloc (.cells #[.pointer (some ⟨9,63,none⟩),.pointer (some ⟨w.heap.size,0,none⟩),.int .u64 150] 89)).alloc (.cells #[.pointer (some ⟨9,63,none⟩),.pointer (some ⟨w.heap.size,0,none⟩),.int .u64 150] 89)).alloc (.cells #[.string t] 61):=by
      unfold asW
      rw [World.setCell_alloc_past _ _ _ _ (by simp;omega),World.setCell_alloc_past _ _ _ _ (by simp;omega),World.setCell_alloc_past _ _ _ _ (by simp;omega),World.setCell_alloc_past _ _ _ _ hrl]
    rw [e1]
    generalize w.setCell ⟨r,o+off,none⟩ (.string t)=w1 at g r1
    have old:∀(w1:World) (o1 o2 o3 o4:Obj),w1.heap.size≤((((w1.alloc o1).alloc o2).alloc o3).alloc o4).heap.size∧∀r,r<w1.heap.size→((((w1.alloc o1).alloc o2).alloc o3).alloc o4).heap[r]? = w1.heap[r]? := fun w1 o1 o2 o3 o4=>by
      have al:∀(w:World) (o:Obj) (r:Nat),r<w.heap.size→(w.alloc o).heap[r]? = w.heap[r]? := fun w o r hr=>by
        simp only [World.alloc]
        rw [Array.getElem?_push,if_neg (by omega)]
      refine ⟨by simp;omega,fun r hr => ?_⟩
      rw [al _ _ r (by simp;omega),al _ _ r (by simp;omega),al _ _ r (by simp;omega),al _ _ r hr]
    obtain ⟨z1,z2⟩:=old w1 (.cells #[.pointer (some ⟨r,o+off,none⟩)] 63) (.cells #[.pointer (some ⟨9,63,none⟩),.pointer (some ⟨w.heap.size,0,none⟩),.int .u64 150] 89) (.cells #[.pointer (some ⟨9,63,none⟩),.pointer (some ⟨w.heap.size,0,none⟩),.int .u64 150] 89) (.cells #[.string t] 61)
    exact ⟨_,ρ,rfl,.bool _,⟨g.os,g.tape,g.output,Nat.le_trans g.size z1,g.lenH,g.lenL,g.extR,g.extL,g.newR,g.newL,fun r hr ho ht=>(z2 r (Nat.lt_of_lt_of_le hr g.size)).trans (g.keep r hr ho ht),g.own⟩,r1.keep z1 z2⟩
end Go.Proofs.YtiilicnmcpjmkaaGreatDoor.Vm

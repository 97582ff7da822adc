import PyProof.Rows.All
import Wide.All
import OpenK.AllK
import Wide.FinOn
import PyProof.EqAt
import PyProof.EqKinds
import PyProof.TupleCall
import PyProof.CompFree
import PyProof.EvalArms
import KE.BitLaws
import OpenK.KOwn
import KE.KIsAll
import PyProof.ExcArgsOwn
import PyProof.IsiH_list
import PyProof.NsDelKeeps
import PyProof.ExcAttrAll.ValueError
import PyProof.ExcBaseAll.ValueError
import PyProof.ZipIter
import PyProof.Rows.SumAny
import KE.LcSums
import PyProof.SetRoads
import PyProof.Rows.SetFrom
import KE.KSetDisp
import PyProof.Rows.SortRuns
import KE.KSortAsk
import PyProof.DictIter
import PyProof.DictRoadsH
import PyProof.Rows.TupDisplay
import PyProof.FString
import PyProof.DictItems
import KE.KPairComp
import PyProof.TupleKey
import PyProof.Rows.StrRules
import KE.KSortTup
import PyProof.NeKinds
import PyProof.FactsAll.list_1
import PyProof.CollectWalk
import PyProof.StrWalks
import PyProof.StrLawsTight
import PyProof.StrLawsChain
import PyProof.StrLawsIn
import PyProof.StrCalls2
import PyProof.StrBlockG
import PyProof.SliceStr2
import KE.KIntText
import PyProof.CollectIter
import PyProof.Walks
import PyProof.SetKind
import PyProof.IsRules
import PyProof.SetNew
import PyProof.StrOps2
import PyProof.Rows.Range3
import PyProof.DictCompW
import PyProof.StrLawsFirst
import PyProof.Rows.StrLawsPart
import PyProof.MeetsStr
import PyProof.FactsAll.str_6
import PyProof.SeqI3
import PySem.Challenge.RW_turnline_k81_desk_moves
noncomputable abbrev aa:=@List.length_map
noncomputable abbrev ae:=@PySem.wpAny_bind
noncomputable abbrev af:=@List.getElem?_eq_some_iff
noncomputable abbrev ah:=@Array.length_toList
noncomputable abbrev ai:=@Nat.le_refl
noncomputable abbrev aj:=@PySem.wpAny_pure
noncomputable abbrev ak:=@PySem.Heap.get?_push_of_some
noncomputable abbrev ao:=@List.getElem?_eq_getElem
noncomputable abbrev aq:=@List.getElem?_map
noncomputable abbrev ar:=@List.mem_cons_of_mem
noncomputable abbrev au:=@if_neg
noncomputable abbrev aw:=@Array.getElem?_toList
noncomputable abbrev ax:=@PyProof.Rows.wpS_bind
noncomputable abbrev ay:=@PySem.Heap.lt_size
noncomputable abbrev az:=@List.mem_cons_self
noncomputable abbrev aA:=@if_pos
noncomputable abbrev aB:=@PySem.Str.length_append
noncomputable abbrev aC:=@Bool.false_ne_true
noncomputable abbrev aD:=@List.mem_of_getElem?
noncomputable abbrev aE:=@List.size_toArray
noncomputable abbrev aF:=@PyProof.Rows.wpS_pure
noncomputable abbrev aG:=@PySem.F.excBase_ValueError
noncomputable abbrev aH:=@List.mem_map
noncomputable abbrev aI:=@List.mem_cons
noncomputable abbrev aJ:=@List.mem_append
noncomputable abbrev aK:=@Nat.ne_of_lt
noncomputable abbrev aL:=@List.mem_append_right
noncomputable abbrev aM:=@PySem.sizeLine_eq
noncomputable abbrev aN:=@List.length_take
noncomputable abbrev aO:=@List.take_of_length_le
noncomputable abbrev aP:=@Nat.zero_le
noncomputable abbrev aQ:=@List.length_cons
noncomputable abbrev aR:=@PySem.Heap.get?_push_size
noncomputable abbrev aS:=@Array.getElem?_eq_getElem
noncomputable abbrev aT:=@Nat.lt_of_lt_of_le
noncomputable abbrev aU:=@List.length_append
noncomputable abbrev aV:=@Bool.false_eq_true
noncomputable abbrev aW:=@List.append_assoc
noncomputable abbrev aX:=@List.map_append
noncomputable abbrev aY:=@PySem.wpAny_mono
noncomputable abbrev aZ:=@PySem.W.mg_none_of
noncomputable abbrev ba:=@List.getElem?_append_left
noncomputable abbrev bf:=@List.getElem?_append_right
noncomputable abbrev bg:=@Array.getD_eq_getD_getElem?
noncomputable abbrev bh:=@PySem.wpAny_holding
noncomputable abbrev bj:=@List.pairwise_append
noncomputable abbrev bp:=@List.mem_singleton
noncomputable abbrev bq:=@Nat.le_trans
noncomputable abbrev br:=@List.map_map
noncomputable abbrev bt:=@List.map_cons
noncomputable abbrev bw:=@List.getD_eq_getElem?_getD
noncomputable abbrev bx:=@Option.some.inj
noncomputable abbrev bz:=@Array.toList_extract
noncomputable abbrev bA:=@Array.getElem?_eq_some_iff
noncomputable abbrev bB:=@Classical.byContradiction
noncomputable abbrev bC:=@List.length_drop
noncomputable abbrev bD:=@List.pairwise_iff_getElem
noncomputable abbrev bE:=@List.getElem?_drop
noncomputable abbrev bF:=@decide_eq_false
noncomputable abbrev bG:=@List.lookup_cons
noncomputable abbrev bH:=@PySem.PassesOwn.never
noncomputable abbrev bI:=@PyProof.Rows.wpS_forRange
noncomputable abbrev bJ:=@PySem.F.plainAttrs_list
noncomputable abbrev bK:=@List.mem_iff_getElem
noncomputable abbrev bL:=@List.mem_append_left
noncomputable abbrev bM:=@Int.emod_lt_of_pos
noncomputable abbrev bN:=@List.append_nil
noncomputable abbrev bO:=@PySem.F.plainAttrs_str
noncomputable abbrev bP:=@List.not_mem_nil
noncomputable abbrev bQ:=@if_false
noncomputable abbrev bR:=@List.take_add_one
noncomputable abbrev bS:=@List.length_filter_le
noncomputable abbrev bT:=@List.mem_range
noncomputable abbrev bU:=@PySem.W.kia_one
noncomputable abbrev bV:=@List.mem_filter
noncomputable abbrev bW:=@List.take_length
noncomputable abbrev bX:=@Ne.symm
noncomputable abbrev bY:=@Nat.mul_assoc
noncomputable abbrev bZ:=@Nat.le_of_lt
noncomputable abbrev b8:=@Array.toList_push
noncomputable abbrev b9:=@List.length_reverse
noncomputable abbrev cb:=@Int.emod_nonneg
noncomputable abbrev cf:=@Nat.lt_irrefl
noncomputable abbrev cg:=@congrArg
noncomputable abbrev cj:=@List.length_dropLast
noncomputable abbrev ck:=@List.pairwise_map
noncomputable abbrev cm:=@PySem.wpAny_standAt
noncomputable abbrev cn:=@Bool.eq_iff_iff
noncomputable abbrev cp:=@PySem.mem_of_lookup
noncomputable abbrev cq:=@List.toList_toArray
noncomputable abbrev cu:=@List.filterMap_cons
noncomputable abbrev cw:=@PySem.F.slot_str_split
noncomputable abbrev cx:=@Option.map_eq_some_iff
noncomputable abbrev cy:=@List.take_append_drop
noncomputable abbrev cz:=@PyProof.Rows.boot_isinstance
noncomputable abbrev cA:=@List.nodup_cons
noncomputable abbrev cB:=@Nat.zero_add
noncomputable abbrev cC:=@Nat.add_zero
noncomputable abbrev cD:=@PySem.W.mg_of
noncomputable abbrev cE:=@PySem.StrLaws.join_split
noncomputable abbrev cF:=@PySem.F.type_list_append
noncomputable abbrev cG:=@PySem.F.slot_list_append
noncomputable abbrev cH:=@List.getElem?_take_of_lt
noncomputable abbrev cI:=@List.reverse_append
noncomputable abbrev cJ:=@PySem.wpAny_truthy_bool
noncomputable abbrev cK:=@List.pairwise_singleton
noncomputable abbrev cL:=@List.filter_cons_of_neg
noncomputable abbrev cM:=@Bool.and_eq_true
noncomputable abbrev cN:=@PyProof.Rows.wpS_mono
noncomputable abbrev cO:=@beq_iff_eq
noncomputable abbrev cP:=@Nat.sub_self
noncomputable abbrev cQ:=@List.mem_iff_getElem?
noncomputable abbrev cR:=@PyProof.Rows.callWith_type1
noncomputable abbrev cS:=@List.nodup_append
noncomputable abbrev cT:=@PySem.wpAny_Call_Name_kw
noncomputable abbrev cU:=@List.mem_of_mem_drop
noncomputable abbrev cV:=@Array.perm_iff_toList_perm
noncomputable abbrev cW:=@List.perm_middle
noncomputable abbrev cX:=@List.mem_reverse
noncomputable abbrev cY:=@PySem.wpAny_setState_of
noncomputable abbrev cZ:=@List.mem_of_find?_eq_some
noncomputable abbrev dc:=@List.drop_eq_getElem_cons
noncomputable abbrev de:=@Nat.lt_succ_iff_lt_or_eq
noncomputable abbrev df:=@List.Pairwise.imp_of_mem
noncomputable abbrev dg:=@Bool.not_true
noncomputable abbrev dh:=@Nat.lt_of_le_of_lt
noncomputable abbrev di:=@List.pairwise_cons
noncomputable abbrev dj:=@List.filter_cons_of_pos
noncomputable abbrev dq:=@or_false
noncomputable abbrev dt:=@if_true
noncomputable abbrev du:=@decide_eq_true_eq
noncomputable abbrev dw:=@PySem.SetTable.toList_insertAt
noncomputable abbrev dy:=@List.length_range
noncomputable abbrev dz:=@List.getElem_take
noncomputable abbrev dC:=@Array.getElem?_eq_none
noncomputable abbrev dD:=@PySem.F.type_str_join
noncomputable abbrev dE:=@PySem.F.slot_str_join
noncomputable abbrev dF:=@List.length_singleton
noncomputable abbrev dG:=@List.Perm.append_left
noncomputable abbrev dH:=@beq_self_eq_true
noncomputable abbrev dN:=@Nat.le_add_right
noncomputable abbrev dQ:=@List.getElem_mem
noncomputable abbrev dU:=@List.all_eq_true
noncomputable abbrev dX:=@List.map_take
noncomputable abbrev dY:=@List.map_drop
noncomputable abbrev dZ:=@PySem.boot_len
noncomputable abbrev ef:=@Nat.pow_le_pow_right
noncomputable abbrev eh:=@List.mem_of_mem_take
noncomputable abbrev ei:=@List.getElem?_set_ne
noncomputable abbrev ej:=@Int.le_refl
noncomputable abbrev eu:=@Array.mem_toList_iff
noncomputable abbrev eA:=@beq_eq_false_iff_ne
noncomputable abbrev eB:=@PySem.wpAny_rule
noncomputable abbrev eC:=@PySem.call_meets
noncomputable abbrev eD:=@Nat.pow_succ
noncomputable abbrev eE:=@decide_eq_true_iff
noncomputable abbrev eF:=@decide_eq_true
noncomputable abbrev eG:=@List.mem_filterMap
noncomputable abbrev eI:=@PySem.wpAny_specialOf
noncomputable abbrev eJ:=@PySem.wpAny_passesOwn
noncomputable abbrev eL:=@List.getLastD_eq_getLast?
noncomputable abbrev eM:=@List.getElem?_zip_eq_some
noncomputable abbrev eN:=@of_decide_eq_true
noncomputable abbrev eO:=@List.take_sublist
noncomputable abbrev eP:=@PySem.codeAny_mono
noncomputable abbrev eQ:=@PySem.wpAny_Constant_str
noncomputable abbrev eR:=@PySem.F.args_str_split_2
noncomputable abbrev eS:=@Option.isSome_iff_exists
noncomputable abbrev eT:=@PySem.typeIs_str
noncomputable abbrev eU:=@PySem.F.entry_str_split
noncomputable abbrev eV:=@List.length_eq_zero_iff
set_option Elab.async false
set_option linter.all false
set_option maxRecDepth 100000
namespace L2
open PySem PySem.Spec PyProof.Rows
noncomputable abbrev Key:=Sum Int Str
noncomputable def wZ:Key->Value->Bool
 |.inl k,v=>Value.isInt k v
 |.inr x,v=>Value.isStrOf x v
noncomputable def NP (w:World):Key->Int
 |.inl k=>hashInt k
 |.inr x=>hashStr w x
theorem h9:∀ {k:Key}{v:Value},wZ k v=true->(∃ i t,k=Sum.inl i/\v=Value.int i t)\/(∃ x t,k=Sum.inr x/\v=Value.str x t)
 |.inl i,v,h=>by
  obtain⟨t,e⟩:=Value.isInt_shape (k:=i) (v:=v) h
  exact .inl ⟨i,t,rfl,e⟩
 |.inr x,v,h=>by
  obtain⟨t,e⟩:=Value.isStrOf_shape (x:=x) (v:=v) h
  exact .inr ⟨x,t,rfl,e⟩
theorem CH (i:Int)(t:Tok):wZ (.inl i) (.int i t)=true:=by simp[wZ,Value.isInt]
theorem CG (x:Str)(t:Tok):wZ (.inr x) (.str x t)=true:=by simp[wZ,Value.isStrOf]
theorem Hw (a b:Int):decide ((Sum.inl a:Key)=Sum.inl b)=(a==b):=by
 by_cases e:a=b
 ·subst e;simp
 ·have h:¬(Sum.inl a:Key)=Sum.inl b:=λq=>e (Sum.inl.inj q)
  rw[bF h]
  exact(eA.mpr e).symm
theorem Ht (a b:Str):decide ((Sum.inr a:Key)=Sum.inr b)=decide (a=b):=by
 by_cases e:a=b
 ·subst e;simp
 ·have h:¬(Sum.inr a:Key)=Sum.inr b:=λq=>e (Sum.inr.inj q)
  rw[bF h,bF e]
theorem Hv (a:Int)(b:Str):decide ((Sum.inl a:Key)=Sum.inr b)=false:=bF (λq=>nomatch q)
theorem Hu (a:Str)(b:Int):decide ((Sum.inr a:Key)=Sum.inl b)=false:=bF (λq=>nomatch q)
noncomputable def iu (prog:Program)(w:World):PySem.KeyKind prog w Key where
 is:=wZ
 hash:=NP w
 inj:=λv a b ha hb=>by
  rcases h9 ha with⟨i,t,rfl,rfl⟩|⟨x,t,rfl,rfl⟩
  ·rcases h9 hb with⟨j,u,rfl,e⟩|⟨y,u,rfl,e⟩
   ·injection e with e1 _;rw[e1]
   ·exact nomatch e
  ·rcases h9 hb with⟨j,u,rfl,e⟩|⟨y,u,rfl,e⟩
   ·exact nomatch e
   ·injection e with e1 _;rw[e1]
 byValue:=λk v h=>by
  rcases h9 h with⟨i,t,rfl,rfl⟩|⟨x,t,rfl,rfl⟩<;>rfl
 pyHash:=λhv h=>by
  rcases h9 hv with⟨i,t,rfl,rfl⟩|⟨x,t,rfl,rfl⟩
  ·exact wpAny_pyHash_int h
  ·exact wpAny_pyHash_str h
 eqBool:=λhu hv h=>by
  rcases h9 hu with⟨i,t,rfl,rfl⟩|⟨x,t,rfl,rfl⟩
  ·rcases h9 hv with⟨j,u,rfl,rfl⟩|⟨y,u,rfl,rfl⟩
   ·rw[Hw]at h;exact wpAny_eqBool_int h
   ·rw[Hv]at h;exact SeqAt.EqAt.int_str i t y u _ _ _ _ h
  ·rcases h9 hv with⟨j,u,rfl,rfl⟩|⟨y,u,rfl,rfl⟩
   ·rw[Hu]at h;exact SeqAt.EqAt.str_int x t j u _ _ _ _ h
   ·rw[Ht]at h;exact wpAny_eqBool_str h
 «strs» :=λk x t v h=>by
  rcases h9 h with⟨i,u,rfl,e⟩|⟨y,u,rfl,e⟩
  ·exact nomatch e
  ·injection e with e1 _
   subst e1
   cases v<;>rfl
theorem zG (prog:Program)(w:World)(i:Int)(t:Tok):(iu prog w).is (.inl i) (.int i t)=true:=CH i t
theorem zF (prog:Program)(w:World)(x:Str)(t:Tok):(iu prog w).is (.inr x) (.str x t)=true:=CG x t
inductive V where
 |non |bl (b:Bool)|int (i:Int)|str (x:Str)|byt (b:Array UInt8)|flt (b:UInt64)|ref (a:Addr)|ty (n:String)
 deriving DecidableEq
noncomputable def RelV:V->Value->Prop
 |.non,u=>u=Value.none
 |.bl b,u=>u=Value.bool b
 |.int i,u=>∃ t,u=Value.int i t
 |.str x,u=>∃ t,u=Value.str x t
 |.byt b,u=>∃ t,u=Value.bytes b t
 |.flt b,u=>∃ t,u=Value.float b t
 |.ref a,u=>u=Value.ref a
 |.ty n,u=>u=Value.type n
noncomputable abbrev Vals:List V->List Value->Prop:=Paired RelV
variable {us:List Value}
theorem Vals.length {xs:List V}(r:Vals xs us):xs.length=us.length:=Paired.length r
theorem Vals.get:∀ {xs:List V}{us:List Value}{i:Nat}{x:V},Vals xs us->xs[i]? = some x->∃ u,us[i]? = some u/\RelV x u
 |_,_,_,_,.nil,e=>by simp at e
 |_,_,0,_,.cons r _,e=>by simp at e;subst e;exact⟨_,rfl,r⟩
 |_,_,i+1,x,.cons _ t,e=>by
  obtain⟨u,h1,h2⟩:=Vals.get (i:=i) (x:=x) t (by simpa using e)
  exact⟨u,by simpa using h1,h2⟩
theorem Vals.set {x:V}{u:Value}(r:RelV x u):∀ {xs:List V}{us:List Value} (i:Nat),Vals xs us->Vals (xs.set i x) (us.set i u)
 |_,_,_,.nil=>.nil
 |_,_,0,.cons _ t=>.cons r t
 |_,_,i+1,.cons q t=>.cons q (Vals.set r i t)
theorem Vals.append:∀ {xs ys:List V}{us ws:List Value},Vals xs us->Vals ys ws->Vals (xs++ys) (us++ws)
 |_,_,_,_,.nil,s=>s
 |_,_,_,_,.cons r t,s=>.cons r (Vals.append t s)
theorem Vals.take:∀ {xs:List V}{us:List Value} (n:Nat),Vals xs us->Vals (xs.take n) (us.take n)
 |_,_,0,_=>.nil
 |_,_,_+1,.nil=>.nil
 |_,_,n+1,.cons r t=>.cons r (Vals.take n t)
theorem Vals.drop:∀ {xs:List V}{us:List Value} (n:Nat),Vals xs us->Vals (xs.drop n) (us.drop n)
 |_,_,0,r=>r
 |_,_,_+1,.nil=>.nil
 |_,_,n+1,.cons _ t=>Vals.drop n t
noncomputable def wA:Option V->Option Value->Prop
 |some v,some u=>RelV v u
 |none,none=>True
 |_,_=>False
noncomputable def KV {κ:Type} :List (κ×V)->List (κ×Value)->Prop:=Paired λ(p:κ×V) (q:κ×Value)=>p.1=q.1/\RelV p.2 q.2
noncomputable def kV:Key->V
 |.inl i=>.int i
 |.inr x=>.str x
inductive HO where
 /-- a list -/
 |lst (xs:List V)
 /-- a tuple (never changes) -/
 |tup (xs:List V)
 /-- a dict Ik keys are ints and texts;one Ik keys are tuples of ints and texts (the empty one is both) -/
 |dK (kvs:List (Key×V))|dT (kvs:List (List Key×V))
 /-- a set of ints:its members,its size -/
 |set (S:Int->Bool) (n:Nat)
 /-- an instance of the class at C,its dict at dx,its attributes -/
 |ins (C dx:Addr) (fs:List (Str×V))
 /-- the dict of the instance at x -/
 |own (x:Addr)
 /-- the dict of an exception -/
 |xd (fs:List (Str×V))
 /-- a bound method,f of x -/
 |met (f x:Addr)
 /-- a range object lo,lo+1,.. below hi -/
 |rng (lo hi:Int)
 /-- a Iu Sg is known to the object (the KW;a dict while a loop walks it):read,never written while it is so -/
 |frz (o:Obj) (u:HO)
 /-- a code I0 table -/
 |tbl (ps:Array Value)
 /-- any other Iu,by Il is true of its one object (a def of Sf own:sP a S n:=HO.ext λh=>..) -/
 |ext (φ:Heap->Prop)
noncomputable abbrev Hp:=Addr->Option HO
noncomputable def upd (H:Hp)(a:Addr)(o:HO):Hp:=λb=>if b=a then some o else H b
variable {H:Hp}{a:Addr}{o:HO}
theorem eZ:upd H a o a=some o:=by unfold upd;rw[aA rfl]
variable {b:Addr}
theorem fE (h:b≠a):upd H a o b=H b:=by unfold upd;rw[au h]
theorem nU {u:HO} :upd (upd H a o) a u=upd H a u:=by
 funext b;unfold upd;split<;>rfl
theorem zE {u:HO}(h:H a=some o)(h':H b=some u)(d:o≠u):a≠b:=by
 intro e;subst e;rw[h]at h';exact d (bx h')
theorem fu (h:H a=some o)(h':H b=none):a≠b:=by
 intro e;subst e;rw[h]at h';cases h'
section
variable (P:Program)(w:World)
noncomputable def iZ (H:Hp)(h:Heap)(a:Addr):HO->Prop
 |.lst xs=>xs.length<=sizeLine/\∃ (its:List Value) (n:Nat),Vals xs its/\h.get? a=some {cls:=.type "list",data:=.seq its.toArray n}
 |.tup xs=>xs.length<=sizeLine/\∃ its:List Value,Vals xs its/\IsTup h a its.toArray
 |.dK kvs=>kvs.length<=sizeLine/\(a==sysModules)=false/\∃ vs,KV kvs vs/\h.DictOf (iu P w) a vs
 |.dT kvs=>kvs.length<=sizeLine/\(a==sysModules)=false/\∃ xs:List (List Key×Addr×Value),
   Paired (λ(p:List Key×V) (q:List Key×Addr×Value)=>p.1=q.1/\H q.2.1=some (.tup (p.1.map kV))/\RelV p.2 q.2.2) kvs xs/\
   ∃ o es ep,h.get? a=some o/\o.ExactDict/\o.data = .dict es ep/\es.toList=xs.map (entryOfKey (tupleKind (iu P w)))/\(xs.map (·.1)).Nodup
 |.set S n=>h.SetOf (intKind P w) a S n
 |.ins C dx fs=>H dx=some (.own a)/\fs.length<=1000/\dx≠a/\h.get? a=some (PySem.W.instObj C dx)/\
   ∃ mA,h.Ns1 dx mA/\(∀ f,wA (fs.lookup f) (mA f))/\PySem.Within mA (fs.map (·.1))
 |.own _=>∃ o,h.get? a=some o
 |.xd fs=>∃ mA,h.Ns1 a mA/\∀ f,wA (fs.lookup f) (mA f)
 |.rng lo hi=>∃ t u v,h.get? a=some {cls:=.type "range",data:=.fields #[.int lo t,.int hi u,.int 1 v]}
 |.frz o u=>h.get? a=some o/\iZ H h a u
 |.tbl ps=>h.get? a=some {cls:=.none,data:=.fields ps}
 |.met f x=>h.get? a=some (PySem.W.methodObj (.ref f) (.ref x))
 |.ext φ=>φ h/\(∃ o,h.get? a=some o)/\∀ h1 h2:Heap,φ h1->(∀ o,h1.get? a=some o->h2.get? a=some o)->φ h2
noncomputable def HOk (H:Hp)(h:Heap):Prop:=∀ a o,H a=some o->iZ P w H h a o
end
section
variable {P:Program}{w:World}{H H':Hp}{h h':Heap}{a:Addr}{o:HO}
theorem iZ.lt (x:iZ P w H h a o):a<h.objs.size:=by
 cases o with
 |lst xs=>obtain⟨_,_,_,_,e⟩:=x;exact ay e
 |tup xs=>obtain⟨_,_,_,p⟩:=x;exact p.lt
 |dK kvs=>obtain⟨_,_,_,_,o,_,_,e,_⟩:=x;exact ay e
 |dT kvs=>obtain⟨_,_,_,_,o,_,_,e,_⟩:=x;exact ay e
 |set S n=>obtain⟨o,_,_,_,e,_⟩:=x;exact ay e
 |ins C dx fs=>obtain⟨_,_,_,e,_⟩:=x;exact ay e
 |own y=>obtain⟨_,e⟩:=x;exact ay e
 |xd fs=>obtain⟨_,⟨_,_,_,e,_⟩,_⟩:=x;exact ay e
 |rng lo hi=>obtain⟨_,_,_,e⟩:=x;exact ay e
 |frz ob u=>obtain⟨e,_⟩:=x;exact ay e
 |tbl ps=>exact ay (show h.get? a=some _ from x)
 |met f y=>exact ay (show h.get? a=some _ from x)
 |ext φ=>obtain⟨_,⟨_,e⟩,_⟩:=x;exact ay e
theorem Paired.Jh {α β:Type}{F G:α->β->Prop} :∀ {l₁:List α}{l₂:List β},Paired F l₁ l₂->(∀ a b,F a b->G a b)->Paired G l₁ l₂
 |_,_,.nil,_=>.nil
 |_,_,.cons r t,f=>.cons (f _ _ r) (Paired.Jh t f)
theorem iZ.qi (x:iZ P w H h a o)(k:∀ b u,(b=a\/H b=some (.own a))->h.get? b=some u->h'.get? b=some u)
  (ho:∀ b,H b=some (.own a)->H' b=some (.own a)) (ht:∀ b xs,H b=some (.tup xs)->H' b=some (.tup xs)):iZ P w H' h' a o:=by
 induction o with
 |lst xs=>obtain⟨z,its,n,r,e⟩:=x;exact⟨z,its,n,r,k _ _ (.inl rfl) e⟩
 |tup xs=>obtain⟨z,its,r,ob,e,c⟩:=x;exact⟨z,its,r,ob,k _ _ (.inl rfl) e,c⟩
 |dK kvs=>obtain⟨z,y,vs,r,ob,es,ep,e,c⟩:=x;exact⟨z,y,vs,r,ob,es,ep,k _ _ (.inl rfl) e,c⟩
 |dT kvs=>
  obtain⟨z,y,xs,r,ob,es,ep,e,c⟩:=x
  exact⟨z,y,xs,Paired.Jh r λp q z=>⟨z.1,ht _ _ z.2.1,z.2.2⟩,ob,es,ep,k _ _ (.inl rfl) e,c⟩
 |set S n=>obtain⟨ob,es,ep,t,e,c⟩:=x;exact⟨ob,es,ep,t,k _ _ (.inl rfl) e,c⟩
 |ins C dx fs=>
  obtain⟨d,z,ne,e,mA,⟨od,es,ep,e2,c⟩,r⟩:=x
  exact⟨ho _ d,z,ne,k _ _ (.inl rfl) e,mA,⟨od,es,ep,k _ _ (.inr d) e2,c⟩,r⟩
 |own y=>obtain⟨ob,e⟩:=x;exact⟨ob,k _ _ (.inl rfl) e⟩
 |xd fs=>obtain⟨mA,⟨od,es,ep,e,c⟩,r⟩:=x;exact⟨mA,⟨od,es,ep,k _ _ (.inl rfl) e,c⟩,r⟩
 |rng lo hi=>obtain⟨t,u,v,e⟩:=x;exact⟨t,u,v,k _ _ (.inl rfl) e⟩
 |frz ob u ih=>obtain⟨e,q⟩:=x;exact⟨k _ _ (.inl rfl) e,ih q⟩
 |tbl ps=>
  have e:h.get? a=some {cls:=.none,data:=.fields ps} :=x
  show h'.get? a=some {cls:=.none,data:=.fields ps}
  exact k a _ (.inl rfl) e
 |met f y=>
  have e:h.get? a=some (PySem.W.methodObj (.ref f) (.ref y)):=x
  show h'.get? a=some (PySem.W.methodObj (.ref f) (.ref y))
  exact k a _ (.inl rfl) e
 |ext φ=>obtain⟨p,⟨o,e⟩,st⟩:=x;exact⟨st _ _ p λo q=>k _ _ (.inl rfl) q,⟨o,k _ _ (.inl rfl) e⟩,st⟩
theorem HOk.lt (x:HOk P w H h)(e:H a=some o):a<h.objs.size:=(x a o e).lt
theorem HOk.fresh (x:HOk P w H h)(e:h.objs.size<=a):H a=none:=by
 cases q:H a with
 |none=>rfl
 |some u=>exact absurd (aT (x.lt q) e) (cf _)
theorem HOk.kept (x:HOk P w H h)(k:∀ b u,h.get? b=some u->h'.get? b=some u):HOk P w H h':=λa o e=>
 (x a o e).qi (λb u _ q=>k b u q) (λ_ q=>q) λ_ _ q=>q
theorem HOk.laid (x:HOk P w H h)(k:∀ b u,h.get? b=some u->h'.get? b=some u)(hp:h.objs.size<=a)(new:iZ P w (upd H a o) h' a o):HOk P w (upd H a o) h':=λb u e=>by
 have hn:=x.fresh hp
 by_cases hb:b=a
 ·subst hb;rw[eZ]at e;cases e;exact new
 ·rw[fE hb]at e
  exact(x b u e).qi (λc v _ q=>k c v q) (λc q=>by rw[fE (fu q hn)];exact q) λc xs q=>by rw[fE (fu q hn)];exact q
end
noncomputable def Rd (H:Hp)(a:Addr)(u:HO):Prop:=H a=some u\/∃ o,H a=some (.frz o u)
variable {P:Program}{w:World}{h:Heap}
theorem Rd.ok {u:HO}(r:Rd H a u)(x:HOk P w H h):iZ P w H h a u:=by
 rcases r with r |⟨o,r⟩
 ·exact x a u r
 ·obtain⟨_,q⟩:=x a _ r
  exact q
noncomputable def Mut:Option HO->Prop
 |some (.lst _)=>True
 |some (.dK _)=>True
 |some (.dT _)=>True
 |some (.set _ _)=>True
 |some (.ins _ _ _)=>True
 |some (.ext _)=>True
 |_=>False
section
variable {P:Program}{w:World}{H:Hp}{h h':Heap}{x e:Addr}{o':HO}
theorem HOk.write (ok:HOk P w H h)(mu:Mut (H x))(he:e=x\/H e=some (.own x))(k:∀ b u,b≠e->h.get? b=some u->h'.get? b=some u)(heo:∃ u,h'.get? e=some u)
  (new:iZ P w (upd H x o') h' x o'):HOk P w (upd H x o') h':=λb u q=>by
 have Ja:∀ c y,H c=some (.own y)->c≠x:=λc y r z=>by subst z;rw[r]at mu;exact mu
 have Nq:∀ c xs,H c=some (.tup xs)->c≠x:=λc xs r z=>by subst z;rw[r]at mu;exact mu
 by_cases hb:b=x
 ·subst hb;rw[eZ]at q;cases q;exact new
 ·rw[fE hb]at q
  by_cases hbe:b=e
  ·have q':H b=some (.own x):=by
    rcases he with z |z
    ·exact absurd (hbe.trans z) hb
    ·rw[hbe];exact z
   rw[q]at q';cases q'
   obtain⟨v,hv⟩:=heo
   exact⟨v,by rw[hbe];exact hv⟩
  ·refine(ok b u q).qi (λc v hc r=>k c v ?_ r) (λc r=>by rw[fE (Ja c b r)];exact r) λc xs r=>by rw[fE (Nq c xs r)];exact r
   rcases hc with rfl |hc
   ·exact hbe
   ·rintro rfl
    rcases he with z |z
    ·exact Ja c b hc z
    ·rw[hc]at z;cases z;exact hb rfl
end
structure Un (fs ex:List Addr)(H H':Hp)(h h':Heap):Prop where
 keep:∀ b o,h.get? b=some o->H b=none->b∉fs->b∉ex->h'.get? b=some o
 slot:∀ b o,h.get? b=some o->H b=none->b∈fs->b∉ex->∃ sl,h'.get? b=some {o with slots:=sl}
 free:∀ b o,h.get? b=some o->H b=none->b∉ex->H' b=none
 there:∀ b o,h.get? b=some o->b∉ex->∃ o',h'.get? b=some o'
 qs:∀ b xs,H b=some (.tup xs)->H' b=some (.tup xs)
 qk:∀ b o u,H b=some (.frz o u)->H' b=some (.frz o u)
 qt:∀ b ps,H b=some (.tbl ps)->∃ more,H' b=some (.tbl (ps++more))
section
variable {fs fs' ex ex':List Addr}{H H1 H2:Hp}{h h1 h2 h':Heap}{a x e:Addr}{o:HO}
theorem Un.any (u:Un fs ex H H1 h h1){ob:Obj}(q:h.get? b=some ob)(n:H b=none)(hx:b∉ex):∃ sl,h1.get? b=some {ob with slots:=sl} :=by
 by_cases hb:b∈fs
 ·exact u.slot b ob q n hb hx
 ·exact⟨ob.slots,u.keep b ob q n hb hx⟩
theorem Un.trans (a:Un fs ex H H1 h h1)(b:Un fs ex H1 H2 h1 h2):Un fs ex H H2 h h2 where
 keep:=λc ob q n hc hx=>b.keep c ob (a.keep c ob q n hc hx) (a.free c ob q n hx) hc hx
 slot:=λc ob q n hc hx=>by
  obtain⟨sl,e1⟩:=a.slot c ob q n hc hx
  obtain⟨sl',e2⟩:=b.slot c _ e1 (a.free c ob q n hx) hc hx
  exact⟨sl',e2⟩
 free:=λc ob q n hx=>by
  obtain⟨o',e1⟩:=a.there c ob q hx
  exact b.free c o' e1 (a.free c ob q n hx) hx
 there:=λc ob q hx=>by
  obtain⟨o',e1⟩:=a.there c ob q hx
  exact b.there c o' e1 hx
 qs:=λc xs q=>b.qs c xs (a.qs c xs q)
 qk:=λc ob xs q=>b.qk c ob xs (a.qk c ob xs q)
 qt:=λc ps q=>by
  obtain⟨m1,e1⟩:=a.qt c ps q
  obtain⟨m2,e2⟩:=b.qt c _ e1
  exact⟨m1++m2,by rw[e2,Array.append_assoc]⟩
theorem Un.kept (k:∀ b u,h.get? b=some u->h'.get? b=some u):Un fs ex H H h h':=
 ⟨λb ob q _ _ _=>k b ob q,λb ob q _ _ _=>⟨ob.slots,k b ob q⟩,λ_ _ _ n _=>n,λb ob q _=>⟨ob,k b ob q⟩,λ_ _ q=>q,λ_ _ _ q=>q,λ_ ps q=>⟨#[],by rw[q];simp⟩⟩
theorem Un.refl:Un fs ex H H h h:=Un.kept λ_ _ q=>q
theorem Un.laid (k:∀ b u,h.get? b=some u->h'.get? b=some u)(hp:h.objs.size<=a)(hn:H a=none):Un fs ex H (upd H a o) h h' where
 keep:=λb u q _ _ _=>k b u q
 slot:=λb u q _ _ _=>⟨u.slots,k b u q⟩
 free:=λb u q n _=>by rw[fE (aK (aT (ay q) hp))];exact n
 there:=λb u q _=>⟨u,k b u q⟩
 qs:=λb xs q=>by rw[fE (fu q hn)];exact q
 qk:=λb u xs q=>by rw[fE (fu q hn)];exact q
 qt:=λb ps q=>⟨#[],by rw[fE (fu q hn),q];simp⟩
theorem Un.write (mu:Mut (H x))(he:e=x\/H e=some (.own x))(k:∀ b u,b≠e->h.get? b=some u->h'.get? b=some u)(heo:∃ u,h'.get? e=some u):Un fs ex H (upd H x o) h h':=by
 have hx:∀ b,H b=none->b≠x:=λb n z=>by subst z;rw[n]at mu;exact mu
 have hb:∀ b,H b=none->b≠e:=λb n z=>by
  subst z
  rcases he with r |r
  ·exact hx b n r
  ·rw[n]at r;cases r
 have hm:∀ b u,H b=some u->¬Mut (some u)->b≠x:=λb u q nm z=>by subst z;rw[q]at mu;exact nm mu
 refine⟨λb u q n _ _=>k b u (hb b n) q,λb u q n _ _=>⟨u.slots,k b u (hb b n) q⟩,λb u q n _=>by rw[fE (hx b n)];exact n,λb u q _=>?_,
  λb xs q=>by rw[fE (hm b _ q λz=>z)];exact q,λb u xs q=>by rw[fE (hm b _ q λz=>z)];exact q,λb ps q=>⟨#[],by rw[fE (hm b _ q λz=>z),q];simp⟩⟩
 by_cases hbe:b=e
 ·subst hbe;exact heo
 ·exact⟨u,k b u hbe q⟩
end
noncomputable def trk (h:Heap)(H:Hp):List Addr:=(List.range h.objs.size).filter λa=>(H a).isSome
noncomputable def yo (h:Heap)(H:Hp):Heap:=PySem.W.hideAll h (trk h H)
theorem CM (h:Heap)(H:Hp):(yo h H).objs.size=h.objs.size:=PySem.W.hideAll_size _ _
theorem EE {o:Obj}(e:h.get? b=some o)(n:H b=none):(yo h H).get? b=some o:=
 PySem.W.hideAll_get _ e λhm=>by
  have q:(H b).isSome=true:=(bV.mp hm).2
  rw[n]at q;simp at q
theorem FE {o:Obj}(e:(yo h H).get? b=some o):h.get? b=some o/\H b=none:=by
 have e':h.get? b=some o:=PySem.W.of_hideAll (trk h H) e
 refine⟨e',?_⟩
 cases q:H b with
 |none=>rfl
 |some x=>
  have hm:b∈trk h H:=bV.mpr ⟨bT.mpr (ay e'),by simp[q]⟩
  have z:(yo h H).get? b=none:=PySem.W.hideAll_none (trk h H) hm
  rw[z]at e;cases e
structure Mod (K:PySem.W.Frag)(mg:Str->Option Value)(base:Heap):Prop where
 kin:K.In base
 glob:base.Ns mainGlobals mg
 blt:∃ mb,base.Ns builtinsNs mb/\∀ x:Str,x≠ "__name__" ->mb x=bootBuiltins x
 nolimit:base.NoLimit
structure Cx where
 prog:Program
 w:World
 K:PySem.W.Frag
 mg:Str->Option Value
 base:Heap
 A:Around
 N:List Str
 s₀:Shared
 H₀:Hp
 env:Env
 outer:List Env
 stack:List Env
 ex:List Addr
 fn:Str->Bool
 calm:Bool
 pn:List (Addr×Obj)
 xe:Value->Shared->Prop
noncomputable def frs (l:List Env):List Addr:=l.filterMap (·.frame)
noncomputable abbrev Cx.fs (X:Cx):List Addr:=frs X.outer
noncomputable def Vis (sc:Scope)(x:Str):Prop:=sc.names.lookup x=some .local\/sc.names.lookup x=some .cell\/sc.names.lookup x=some .free
noncomputable def Loc (sc:Scope)(x:Str):Prop:=sc.names.lookup x=some .local\/sc.names.lookup x=some .cell
noncomputable def Look (env:Env)(h:Heap)(m:Str->Option Value)(x:Str)(u:Value):Prop:=
 (env.kindOf x=some .local/\m x=some u)\/((env.kindOf x=some .cell\/env.kindOf x=some .free)/\∃ c,env.cells.lookup x=some c/\h.IsCell c (some u))
structure Cx.Ok (X:Cx):Prop where
 mod:Mod X.K X.mg X.base
 kind:X.env.scope.kind = .function
 glob:X.env.globals=mainGlobals
 blt:X.env.builtins=builtinsNs
 above:X.s₀.heap.objs.size<=X.env.locals
 inj:∀ x y c,X.env.cells.lookup x=some c->X.env.cells.lookup y=some c->x=y
 has:∀ x,(X.env.kindOf x=some .cell\/X.env.kindOf x=some .free)->∃ c,X.env.cells.lookup x=some c
 cab:∀ x c,X.fn x=true->X.env.cells.lookup x=some c->X.s₀.heap.objs.size<=c
 hd:X.calm=true->X.A.handled=none
 frames:X.A.frames=some X.stack
 stk:X.stack=X.outer\/(X.stack=X.env::X.outer/\X.env.frame=some X.env.locals)
 exf:∀ b∈X.ex,b≠X.env.locals/\∀ x c,X.env.cells.lookup x=some c->c≠b
 bs:∀ b o,X.base.get? b=some o->X.s₀.heap.get? b=some o/\X.H₀ b=none
 bsz:X.base.objs.size<=X.s₀.heap.objs.size
 AI:∀ b o,X.base.get? b=some o->b∉X.ex
 CP:∀ b∈X.ex,b∉X.fs
 rm:X.s₀.heap.FunFrames X.base X.outer
 frf:∀ b∈X.fs,X.H₀ b=none
structure Inv (X:Cx)(pins:List (Addr×Obj))(σ:List (Option V))(H:Hp)(s:Shared):Prop where
 ok:X.Ok
 os:s.os=X.s₀.os
 bare:AllBare s.gens
 base:Un X.fs X.ex X.H₀ H X.s₀.heap s.heap
 loc:∃ m,s.heap.Ns X.env.locals m/\∀ (i:Nat) (x:Str) (v:V),X.N[i]? = some x->σ[i]? = some (some v)->Vis X.env.scope x->∃ u,RelV v u/\Look X.env s.heap m x u
 cell:∀ x c,X.env.cells.lookup x=some c->∃ v,s.heap.IsCell c v
 free:H X.env.locals=none
 lD:∀ x c,X.env.cells.lookup x=some c->H c=none
 pin:∀ p∈X.pn++pins,s.heap.get? p.1=some p.2/\H p.1=none/\p.1≠X.env.locals/\p.1∉X.fs/\∀ v,p.2.data≠ .cell v
 hok:HOk X.prog X.w H s.heap
 len:σ.length=X.N.length
variable {i:Nat}{x:Str}{u:Value}
section
variable {X:Cx}{pins:List (Addr×Obj)}{σ:List (Option V)}{H H':Hp}{s:Shared}{h':Heap}
theorem Cx.Ok.Nt (ok:X.Ok){o:Obj}(e:X.base.get? b=some o):b∉X.fs:=λhb=>by
 have:=(ok.rm.mem hb).1
 rw[e]at this;cases this
theorem Inv.bs (I:Inv X pins σ H s):∀ b o,X.base.get? b=some o->s.heap.get? b=some o/\H b=none:=λb o e=>
 ⟨I.base.keep b o (I.ok.bs b o e).1 (I.ok.bs b o e).2 (I.ok.Nt e) (I.ok.AI b o e),I.base.free b o (I.ok.bs b o e).1 (I.ok.bs b o e).2 (I.ok.AI b o e)⟩
theorem Inv.bk (I:Inv X pins σ H s):∀ b o,X.base.get? b=some o->s.heap.get? b=some o:=λb o e=>(I.bs b o e).1
theorem Inv.mod (I:Inv X pins σ H s):Mod X.K X.mg X.base:=I.ok.mod
theorem Inv.kIn (I:Inv X pins σ H s):X.K.In s.heap:=I.ok.mod.kin.keeps I.bk
theorem Inv.lt (I:Inv X pins σ H s):X.env.locals<s.heap.objs.size:=let ⟨_,hn,_⟩:=I.loc;hn.lt
theorem Inv.sz (I:Inv X pins σ H s):X.s₀.heap.objs.size<=s.heap.objs.size:=bq I.ok.above (bZ I.lt)
theorem Inv.Nr (I:Inv X pins σ H s)(h:s.heap.objs.size<=a):a∉X.fs:=λhb=>by
 obtain⟨_,o,ho,_⟩:=I.ok.rm.mem hb
 exact absurd (aT (ay ho) (bq I.sz h)) (cf _)
theorem Inv.cne (I:Inv X pins σ H s):∀ x c,X.env.cells.lookup x=some c->c≠X.env.locals:=λx c e z=>by
 obtain⟨v,o,ho,hd⟩:=I.cell x c e
 obtain⟨m,⟨o',es,ep,ho',hd',_⟩,_⟩:=I.loc
 rw[z,ho']at ho;cases ho;rw[hd']at hd;cases hd
theorem Inv.rm (I:Inv X pins σ H s):s.heap.FunFrames X.base X.outer:=by
 have all:∀ (l:List Env),(∀ b∈frs l,b∈X.fs)->X.s₀.heap.FunFrames X.base l->s.heap.FunFrames X.base l:=by
  intro l
  induction l with
  |nil=>intro _ _;trivial
  |cons env r ih=>
   intro hs hl
   obtain⟨hk,⟨L,o,hf,hn,ho,hd⟩,hr⟩:=hl
   have hL:L∈X.fs:=hs L (by unfold frs;rw[cu,hf];exact az)
   obtain⟨sl,e⟩:=I.base.slot L o ho (I.ok.frf L hL) hL λz=>I.ok.CP L z hL
   exact⟨hk,⟨L,_,hf,hn,e,hd⟩,ih (λb hb=>hs b (by unfold frs;rw[cu,hf];exact ar _ hb)) hr⟩
 exact all X.outer (λ_ hb=>hb) I.ok.rm
theorem Inv.stack (I:Inv X pins σ H s):s.heap.FunFrames X.base X.stack:=by
 rcases I.ok.stk with e |⟨e,hf⟩
 ·rw[e];exact I.rm
 ·rw[e]
  obtain⟨m,hn,_⟩:=I.loc
  refine .cons (by rw[I.ok.kind];decide) hf hn ?_ I.rm
  exact Heap.get?_none_of_le (bq I.ok.bsz I.ok.above)
theorem Inv.nX (I:Inv X pins σ H s):∀ b∈frs X.stack,b∈X.env.locals::X.fs:=λb hb=>by
 rcases I.ok.stk with e |⟨e,hf⟩
 ·rw[e]at hb;exact ar _ hb
 ·rw[e]at hb
  unfold frs at hb
  rw[cu,hf]at hb
  exact hb
theorem Inv.xu (I:Inv X pins σ H s):∀ b∈frs X.stack,H b=none:=λb hb=>by
 rcases aI.mp (I.nX b hb)with e |hb
 ·rw[e];exact I.free
 ·obtain⟨_,o,ho,_⟩:=I.ok.rm.mem hb
  exact I.base.free b o ho (I.ok.frf b hb) λz=>I.ok.CP b z hb
theorem Inv.step {g':Array GenState}{t':Nat}{d':Drawn}{ch:List Addr}(I:Inv X pins σ H s)
  (hch:∀ b∈ch,(b∈X.ex\/X.s₀.heap.objs.size<=b)/\b≠X.env.locals/\(∀ x c,X.env.cells.lookup x=some c->c≠b)/\∀ p∈X.pn++pins,p.1≠b)
  (keep:∀ b o,b≠X.env.locals->b∉X.fs->b∉ch->s.heap.get? b=some o->H b=none->h'.get? b=some o)
  (slot:∀ b o,b≠X.env.locals->b∈X.fs->b∉ch->s.heap.get? b=some o->H b=none->∃ sl,h'.get? b=some {o with slots:=sl}) (free:∀ b o,b∉ch->s.heap.get? b=some o->H b=none->H' b=none)
  (there:∀ b o,b∉ch->s.heap.get? b=some o->∃ o',h'.get? b=some o')
  (qs:∀ b xs,H b=some (.tup xs)->H' b=some (.tup xs)) (qk:∀ b o u,H b=some (.frz o u)->H' b=some (.frz o u)) (qt:∀ b ps,H b=some (.tbl ps)->∃ more,H' b=some (.tbl (ps++more)))
  (ns:∀ m,s.heap.Ns X.env.locals m->h'.Ns X.env.locals m) (hok:HOk X.prog X.w H' h') (hg:AllBare g'):
  Inv X pins σ H' {s with heap:=h',gens:=g',drawn:=d',toks:=t'} :=by
 have neL:∀ b o,X.s₀.heap.get? b=some o->b≠X.env.locals:=λb o e=>aK (aT (ay e) I.ok.above)
 have neC:∀ b o,X.s₀.heap.get? b=some o->b∉X.ex->b∉ch:=λb o e hx hb=>by
  rcases(hch b hb).1 with z |z
  ·exact hx z
  ·exact absurd (aT (ay e) z) (cf _)
 have cellK:∀ x c,X.env.cells.lookup x=some c->∀ v,s.heap.IsCell c v->h'.IsCell c v:=λx c e v ⟨o,ho,hd⟩=>by
  have nch:c∉ch:=λz=>(hch c z).2.2.1 x c e rfl
  by_cases hc:c∈X.fs
  ·obtain⟨sl,q⟩:=slot c o (I.cne x c e) hc nch ho (I.lD x c e)
   exact⟨_,q,hd⟩
  ·exact⟨o,keep c o (I.cne x c e) hc nch ho (I.lD x c e),hd⟩
 refine⟨I.ok,I.os,hg,⟨λb o e n hb hx=>?_,λb o e n hb hx=>?_,λb o e n hx=>?_,λb o e hx=>?_,λb xs e=>qs b xs (I.base.qs b xs e),λb o xs e=>qk b o xs (I.base.qk b o xs e),λb ps e=>?_⟩,?_,λx c e=>?_,?_,λx c e=>?_,λp hp=>?_,hok,I.len⟩
 ·exact keep b o (neL b o e) hb (neC b o e hx) (I.base.keep b o e n hb hx) (I.base.free b o e n hx)
 ·obtain⟨sl,e1⟩:=I.base.slot b o e n hb hx
  obtain⟨sl',e2⟩:=slot b _ (neL b o e) hb (neC b o e hx) e1 (I.base.free b o e n hx)
  exact⟨sl',e2⟩
 ·obtain⟨o',e1⟩:=I.base.there b o e hx
  exact free b o' (neC b o e hx) e1 (I.base.free b o e n hx)
 ·obtain⟨o',e1⟩:=I.base.there b o e hx
  exact there b o' (neC b o e hx) e1
 ·obtain⟨m1,e1⟩:=I.base.qt b ps e
  obtain⟨m2,e2⟩:=qt b _ e1
  exact⟨m1++m2,by rw[e2,Array.append_assoc]⟩
 ·obtain⟨m,hn,hl⟩:=I.loc
  refine⟨m,ns m hn,λi x v e1 e2 e3=>?_⟩
  obtain⟨u,r,l⟩:=hl i x v e1 e2 e3
  refine⟨u,r,?_⟩
  rcases l with l |⟨k,c,e,z⟩
  ·exact .inl l
  ·exact .inr ⟨k,c,e,cellK x c e _ z⟩
 ·obtain⟨v,z⟩:=I.cell x c e
  exact⟨v,cellK x c e v z⟩
 ·obtain⟨m,⟨o,_,_,ho,_⟩,_⟩:=I.loc
  exact free _ o (λz=>(hch _ z).2.1 rfl) ho I.free
 ·obtain⟨v,o,ho,hd⟩:=I.cell x c e
  exact free c o (λz=>(hch c z).2.2.1 x c e rfl) ho (I.lD x c e)
 ·obtain⟨e,n,ne,nf,d⟩:=I.pin p hp
  have nch:p.1∉ch:=λz=>(hch p.1 z).2.2.2 p hp rfl
  exact⟨keep p.1 p.2 ne nf nch e n,free p.1 p.2 nch e n,ne,nf,d⟩
theorem Inv.un {t':Nat}(I:Inv X pins σ H s)(u:Un X.fs [] H H' s.heap h')(hok:HOk X.prog X.w H' h'):Inv X pins σ H' {s with heap:=h',toks:=t'} :=by
 obtain⟨m,⟨o,es,ep,ho,r⟩,_⟩:=id I.loc
 obtain⟨sl,hL⟩:=u.any ho I.free (by simp)
 exact I.step (g':=s.gens) (d':=s.drawn) (ch:=[]) (λ_ z=>nomatch z) (λb o _ hb _ e n=>u.keep b o e n hb (by simp)) (λb o _ hb _ e n=>u.slot b o e n hb (by simp)) (λb o _ e n=>u.free b o e n (by simp)) (λb o _ e=>u.there b o e (by simp)) u.qs u.qk u.qt (λm' hm=>by
  obtain⟨o',es',ep',ho',r'⟩:=hm
  rw[ho]at ho';cases ho'
  exact⟨_,es',ep',hL,r'⟩) hok I.bare
theorem Inv.call {g':Array GenState}{t':Nat}{d':Drawn}{ch:List Addr}(I:Inv X pins σ H s)(u:Un (frs X.stack) ch H H' s.heap h')(hok:HOk X.prog X.w H' h')(hg:AllBare g')
  (hch:∀ b∈ch,(b∈X.ex\/X.s₀.heap.objs.size<=b)/\b≠X.env.locals/\(∀ x c,X.env.cells.lookup x=some c->c≠b)/\∀ p∈X.pn++pins,p.1≠b):
  Inv X pins σ H' {s with heap:=h',gens:=g',drawn:=d',toks:=t'} :=by
 obtain⟨m,⟨o,es,ep,ho,r⟩,_⟩:=id I.loc
 obtain⟨sl,hL⟩:=u.any ho I.free λz=>(hch _ z).2.1 rfl
 exact I.step (ch:=ch) hch (λb o hL hb hc e n=>u.keep b o e n (λz=>(aI.mp (I.nX b z)).elim hL hb) hc) (λb o _ _ hc e n=>u.any e n hc) (λb o hc e n=>u.free b o e n hc) (λb o hc e=>u.there b o e hc) u.qs u.qk u.qt (λm' hm=>by
  obtain⟨o',es',ep',ho',r'⟩:=hm
  rw[ho]at ho';cases ho'
  exact⟨_,es',ep',hL,r'⟩) hok hg
theorem Inv.turned {t':Nat}{it:Addr}(I:Inv X pins σ H s)(k:∀ b o,b≠it->s.heap.get? b=some o->h'.get? b=some o)(hn:H it=none)(hL:it≠X.env.locals)
  (h1:it∈X.ex\/X.s₀.heap.objs.size<=it) (h2:∀ x c,X.env.cells.lookup x=some c->c≠it) (h3:∀ p∈X.pn++pins,p.1≠it):Inv X pins σ H {s with heap:=h',toks:=t'} :=by
 have nit:∀ b u,H b=some u->b≠it:=λb u e z=>by rw[z,hn]at e;cases e
 refine I.step (g':=s.gens) (d':=s.drawn) (ch:=[it]) (λb hb=>?_) (λb o _ _ hc e _=>k b o (λz=>hc (by simp[z])) e) (λb o _ _ hc e _=>⟨o.slots,k b o (λz=>hc (by simp[z])) e⟩) (λ_ _ _ _ n=>n)
  (λb o hc e=>⟨o,k b o (λz=>hc (by simp[z])) e⟩) (λ_ _ e=>e) (λ_ _ _ e=>e) (λb ps e=>⟨#[],by rw[e];simp⟩) (λm hm=>?_) (λb u e=>?_) I.bare
 ·have e:b=it:=by simpa using hb
  subst e
  exact⟨h1,hL,h2,h3⟩
 ·obtain⟨o,es,ep,ho,r⟩:=hm
  exact⟨o,es,ep,k _ o (bX hL) ho,r⟩
 ·refine(I.hok b u e).qi (λc v hc q=>k c v ?_ q) (λ_ q=>q) λ_ _ q=>q
  rcases hc with z |z
  ·rw[z];exact nit b u e
  ·exact nit c _ z
theorem Inv.tok (I:Inv X pins σ H s)(t:Nat):Inv X pins σ H {s with toks:=t} :=I.un (h':=s.heap) (t':=t) Un.refl I.hok
theorem Inv.kept {t':Nat}(I:Inv X pins σ H s)(k:∀ b u,s.heap.get? b=some u->h'.get? b=some u):Inv X pins σ H {s with heap:=h',toks:=t'} :=I.un (Un.kept k) (I.hok.kept k)
theorem Inv.laid {t':Nat}(I:Inv X pins σ H s)(k:∀ b u,s.heap.get? b=some u->h'.get? b=some u)(hp:s.heap.objs.size<=a)(new:iZ X.prog X.w (upd H a o) h' a o):
  Inv X pins σ (upd H a o) {s with heap:=h',toks:=t'} :=I.un (Un.laid k hp (I.hok.fresh hp)) (I.hok.laid k hp new)
theorem Inv.write {x e:Addr}{t':Nat}(I:Inv X pins σ H s)(mu:Mut (H x))(he:e=x\/H e=some (.own x))(k:∀ b u,b≠e->s.heap.get? b=some u->h'.get? b=some u)(heo:∃ u,h'.get? e=some u)
  (new:iZ X.prog X.w (upd H x o) h' x o):Inv X pins σ (upd H x o) {s with heap:=h',toks:=t'} :=I.un (Un.write mu he k heo) (I.hok.write mu he k heo new)
theorem Inv.weak {σ':List (Option V)}(I:Inv X pins σ H s)(hl:σ'.length=σ.length)(w:∀ (i:Nat) v,σ'[i]? = some (some v)->σ[i]? = some (some v)):Inv X pins σ' H s:=
 ⟨I.ok,I.os,I.bare,I.base,let ⟨m,hn,hl'⟩:=I.loc;⟨m,hn,λi x v e1 e2 e3=>hl' i x v e1 (w i v e2) e3⟩,I.cell,I.free,I.lD,I.pin,I.hok,hl.trans I.len⟩
theorem Inv.Bp {tm:List (Addr×Obj)}(I:Inv X pins σ H s)(h:∀ p∈tm,s.heap.get? p.1=some p.2/\H p.1=none/\p.1≠X.env.locals/\p.1∉X.fs/\∀ v,p.2.data≠ .cell v):Inv X tm σ H s:=
 ⟨I.ok,I.os,I.bare,I.base,I.loc,I.cell,I.free,I.lD,λp hp=>(aJ.mp hp).elim (λz=>I.pin p (bL _ z)) (h p),I.hok,I.len⟩
theorem uT {N:List Str}(hN:N.Nodup){j:Nat}(a:N[i]? = some x)(b:N[j]? = some x):i=j:=by
 obtain⟨h1,e1⟩:=af.mp a
 obtain⟨h2,e2⟩:=af.mp b
 exact(List.getElem_inj hN).mp (e1.trans e2.symm)
theorem wF {M:Model}{A:Around}{E:Value->Shared->Prop}{v:V}{Q:Unit->Shared->Prop}(I:Inv X pins σ H s)(hN:X.N.Nodup)(hi:X.N[i]? = some x)(hx:Loc X.env.scope x)(r:RelV v u)
  (h:∀ s',Inv X pins (σ.set i (some v)) H s'->(∃ a,Heap.SameBut a s.heap s'.heap/\(a=X.env.locals\/X.env.cells.lookup x=some a))->Q () s') (hf:X.fn x=true\/X.env.scope.names.lookup x=some .local:=by first |exact .inl rfl |exact .inr rfl |assumption):wpAny M A (storeName X.env x u) Q E s:=by
 obtain⟨m,hn,hl⟩:=id I.loc
 have EF:(X.env.scope.kind == .class||(X.env.scope.kind == .module&&X.env.locals !=X.env.globals))=false:=by rw[I.ok.kind];rfl
 have hiσ:i<σ.length:=by rw[I.len];exact(af.mp hi).1
 have cne:=I.cne
 have tracked:∀ {a:Addr}{h':Heap},(∃ o,s.heap.get? a=some o/\H a=none)->Heap.SameBut a s.heap h'->HOk X.prog X.w H h':=λ{a h'} ha hs b ob e=>by
  obtain⟨_,_,mZ⟩:=ha
  refine(I.hok b ob e).qi (λc w' hc q=>(hs.2 c ?_).trans q) (λ_ q=>q) λ_ _ q=>q
  rintro rfl
  rcases hc with rfl |hc
  ·rw[mZ]at e;cases e
  ·rw[mZ]at hc;cases hc
 rcases hx with hk |hk
 ·refine wpAny_storeName_local hk hn (λh' hn' hs=>?_) EF
  obtain⟨oL,_,_,hoL,_⟩:=id hn
  refine h _ ⟨I.ok,I.os,I.bare,⟨λb o e n hb hx=>?_,λb o e n hb hx=>?_,I.base.free,λb o e hx=>?_,I.base.qs,I.base.qk,I.base.qt⟩,⟨_,hn',λj y v' e1 e2 e3=>?_⟩,λy c e=>?_,I.free,I.lD,λp hp=>?_,tracked ⟨oL,hoL,I.free⟩ hs,by simpa using I.len⟩ ⟨_,hs,.inl rfl⟩
  ·exact(hs.2 b (aK (aT (ay e) I.ok.above))).trans (I.base.keep b o e n hb hx)
  ·obtain⟨sl,e1⟩:=I.base.slot b o e n hb hx
   exact⟨sl,(hs.2 b (aK (aT (ay e) I.ok.above))).trans e1⟩
  ·obtain⟨o',e1⟩:=I.base.there b o e hx
   exact⟨o',(hs.2 b (aK (aT (ay e) I.ok.above))).trans e1⟩
  ·by_cases hj:j=i
   ·subst hj
    rw[hi]at e1;cases e1
    rw[List.getElem?_set_self hiσ]at e2
    cases e2
    exact⟨u,r,.inl ⟨hk,by simp⟩⟩
   ·rw[ei (bX hj)]at e2
    obtain⟨u',r',q⟩:=hl j y v' e1 e2 e3
    refine⟨u',r',?_⟩
    rcases q with⟨k,e⟩|⟨k,c,e,z⟩
    ·refine .inl ⟨k,?_⟩
     have:y≠x:=λe=>hj (uT hN e1 (e ▸ hi))
     simp[this,e]
    ·exact .inr ⟨k,c,e,z.sameBut hs (cne y c e)⟩
  ·obtain⟨w',z⟩:=I.cell y c e
   exact⟨w',z.sameBut hs (cne y c e)⟩
  ·obtain⟨e,n,ne,nf,d⟩:=I.pin p hp
   exact⟨(hs.2 p.1 ne).trans e,n,ne,nf,d⟩
 ·have hfn:X.fn x=true:=by
   rcases hf with z |z
   ·exact z
   ·rw[z]at hk;cases hk
  obtain⟨c,hc⟩:=I.ok.has x (.inl hk)
  obtain⟨w',z⟩:=I.cell x c hc
  refine wpAny_storeName_cell I.ok.kind hk hc z (λh' hc' hs=>?_)
  obtain⟨oc,hoc,OJ⟩:=id z
  refine h {s with heap:=h'} ⟨I.ok,I.os,I.bare,⟨λb o e n hb hx=>?_,λb o e n hb hx=>?_,I.base.free,λb o e hx=>?_,I.base.qs,I.base.qk,I.base.qt⟩,⟨m,hn.sameBut hs (bX (cne x c hc)),λj y v' e1 e2 e3=>?_⟩,λy c' e=>?_,I.free,I.lD,λp hp=>?_,tracked ⟨oc,hoc,I.lD x c hc⟩ hs,by simpa using I.len⟩ ⟨c,hs,.inr hc⟩
  ·exact(hs.2 b (aK (aT (ay e) (I.ok.cab x c hfn hc)))).trans (I.base.keep b o e n hb hx)
  ·obtain⟨sl,e1⟩:=I.base.slot b o e n hb hx
   exact⟨sl,(hs.2 b (aK (aT (ay e) (I.ok.cab x c hfn hc)))).trans e1⟩
  ·obtain⟨o',e1⟩:=I.base.there b o e hx
   exact⟨o',(hs.2 b (aK (aT (ay e) (I.ok.cab x c hfn hc)))).trans e1⟩
  ·by_cases hj:j=i
   ·subst hj
    rw[hi]at e1;cases e1
    rw[List.getElem?_set_self hiσ]at e2
    cases e2
    exact⟨u,r,.inr ⟨.inl hk,c,hc,hc'⟩⟩
   ·rw[ei (bX hj)]at e2
    obtain⟨u',r',q⟩:=hl j y v' e1 e2 e3
    refine⟨u',r',?_⟩
    rcases q with q |⟨k,c',e,z'⟩
    ·exact .inl q
    ·refine .inr ⟨k,c',e,z'.sameBut hs ?_⟩
     rintro rfl
     exact hj (uT hN e1 (I.ok.inj _ _ _ e hc ▸ hi))
  ·by_cases hcc:c'=c
   ·subst hcc;exact⟨_,hc'⟩
   ·obtain⟨w2,z2⟩:=I.cell y c' e
    exact⟨w2,z2.sameBut hs hcc⟩
  ·obtain⟨e,n,ne,nf,d⟩:=I.pin p hp
   refine⟨(hs.2 p.1 ?_).trans e,n,ne,nf,d⟩
   intro q
   rw[q,hoc]at e
   have q':oc=p.2:=bx e
   exact d w' (by rw[<-q'];exact OJ)
theorem um {M:Model}{A:Around}{E:Value->Shared->Prop}{v:V}{Q:Unit->Shared->Prop}(I:Inv X pins σ H s)(hN:X.N.Nodup)(hi:X.N[i]? = some x)(hx:Loc X.env.scope x)(r:RelV v u)
  (h:∀ s',Inv X pins (σ.set i (some v)) H s'->Q () s') (hf:X.fn x=true\/X.env.scope.names.lookup x=some .local:=by first |exact .inl rfl |exact .inr rfl |assumption):wpAny M A (storeName X.env x u) Q E s:=
 wF I hN hi hx r (λs' I' _=>h s' I') hf
theorem Inv.E2 {s':Shared}{ch:List Addr}(I:Inv X pins σ H s)(ho:s'.os=s.os)(u:Un (frs X.stack) ch H H' s.heap s'.heap)(hok:HOk X.prog X.w H' s'.heap)(hg:AllBare s'.gens)
  (hch:∀ b∈ch,(b∈X.ex\/X.s₀.heap.objs.size<=b)/\b≠X.env.locals/\(∀ x c,X.env.cells.lookup x=some c->c≠b)/\∀ p∈X.pn++pins,p.1≠b):Inv X pins σ H' s':=by
 obtain⟨h',g',d',t',o'⟩:=s'
 have e:o'=s.os:=ho
 subst e
 exact I.call (g':=g') (t':=t') (d':=d') u hok hg hch
end
noncomputable abbrev XK:=Value->Option Addr->Hp->Prop
noncomputable abbrev St:=List (Option V)
noncomputable abbrev VK:=V->Hp->Prop
noncomputable abbrev TE:=St->Hp->VK->Prop
noncomputable abbrev TT:=St->Hp->(Bool->Hp->Prop)->Prop
noncomputable abbrev TA:=St->Hp->(List V->Hp->Prop)->Prop
structure Ends where
 nx:St->Hp->Prop
 rt:VK
 bk:St->Hp->Prop:=λ_ _=>False
 ct:St->Hp->Prop:=λ_ _=>False
noncomputable abbrev TS:=Ends->St->Hp->Prop
noncomputable def EP (X:Cx)(pins:List (Addr×Obj))(σ:St)(Q:VK)(u:Value)(s':Shared):Prop:=∃ v H',Inv X pins σ H' s'/\RelV v u/\Q v H'
noncomputable def TP (X:Cx)(pins:List (Addr×Obj))(σ:St)(Q:Bool->Hp->Prop)(b:Bool)(s':Shared):Prop:=∃ H',Inv X pins σ H' s'/\Q b H'
noncomputable def AP (X:Cx)(pins:List (Addr×Obj))(σ:St)(Q:List V->Hp->Prop)(us:List Value)(s':Shared):Prop:=∃ vs H',Inv X pins σ H' s'/\Vals vs us/\Q vs H'
noncomputable def SP (X:Cx)(pins:List (Addr×Obj))(D:Ends)(f:Flow)(s':Shared):Prop:=
 match f with
 |.next=>∃ σ' H',Inv X pins σ' H' s'/\D.nx σ' H'
 |.brk=>∃ σ' H',Inv X pins σ' H' s'/\D.bk σ' H'
 |.cont=>∃ σ' H',Inv X pins σ' H' s'/\D.ct σ' H'
 |.ret u=>∃ v σ' H',Inv X pins σ' H' s'/\RelV v u/\D.rt v H'
noncomputable def PE (X:Cx)(e:Expr)(t:TE):Prop:=
 ∀ (pins:List (Addr×Obj)) (s:Shared) (σ:St) (H:Hp) (Q:VK),Inv X pins σ H s->t σ H Q->wpAny (model X.prog X.w) X.A (eval e X.env) (EP X pins σ Q) X.xe s
noncomputable def PT (X:Cx)(e:Expr)(t:TT):Prop:=
 ∀ (pins:List (Addr×Obj)) (s:Shared) (σ:St) (H:Hp) (Q:Bool->Hp->Prop),Inv X pins σ H s->t σ H Q->wpAny (model X.prog X.w) X.A (isTrue e X.env (eval e X.env)) (TP X pins σ Q) X.xe s
noncomputable def PW (X:Cx)(e:Expr)(t:TT):Prop:=
 ∀ (whole:Sem Value) (pins:List (Addr×Obj)) (s:Shared) (σ:St) (H:Hp) (Q:Bool->Hp->Prop),Inv X pins σ H s->t σ H Q->wpAny (model X.prog X.w) X.A (isTrue e X.env whole) (TP X pins σ Q) X.xe s
variable {e:Expr}
theorem PW.pt {X:Cx}{t:TT}(h:PW X e t):PT X e t:=h _
noncomputable def PA (X:Cx)(es:List Expr)(t:TA):Prop:=
 ∀ (pos:Pos) (pins:List (Addr×Obj)) (s:Shared) (σ:St) (H:Hp) (Q:List V->Hp->Prop),Inv X pins σ H s->t σ H Q->wpAny (model X.prog X.w) X.A (spliced (backTo pos (starEach es X.env))) (AP X pins σ Q) X.xe s
noncomputable def PS (X:Cx)(st:Stmt)(t:TS):Prop:=
 ∀ (pins:List (Addr×Obj)) (s:Shared) (σ:St) (H:Hp) (D:Ends),Inv X pins σ H s->t D σ H->wpAny (model X.prog X.w) X.A (exec st X.env) (SP X pins D) X.xe s
noncomputable def PSs (X:Cx)(st:List Stmt)(t:TS):Prop:=
 ∀ (pins:List (Addr×Obj)) (s:Shared) (σ:St) (H:Hp) (D:Ends),Inv X pins σ H s->t D σ H->wpAny (model X.prog X.w) X.A (execs st X.env) (SP X pins D) X.xe s
variable {A:Around}{E:Value->Shared->Prop}{s:Shared}
theorem thn {α:Type}{t:Sem α}{Q Q':α->Shared->Prop}{M:Model}(h:wpAny M A t Q E s)(hQ:∀ a s,Q a s->Q' a s):wpAny M A t Q' E s:=aY h hQ λ_ _ x=>x
variable {Q:Value->Shared->Prop}{pins:List (Addr×Obj)}{σ:St}{pos:Pos}{op:CmpOp}
section
variable {X:Cx}
theorem bin {a b:Expr}{ta tb:TE}(ha:PE X a ta)(hb:PE X b tb){R:V->V->Hp->Prop}(I:Inv X pins σ H s)(h:ta σ H λx H1=>tb σ H1 λy H2=>R x y H2)
  {α:Type}{Q:α->Shared->Prop}{f:Value->Value->Sem α}
  (hf:∀ v u s2 x y H2,Inv X pins σ H2 s2->RelV x v->RelV y u->R x y H2->wpAny (model X.prog X.w) X.A (f v u) Q X.xe s2):
  wpAny (model X.prog X.w) X.A (eval a X.env) (λv s₁=>wpAny (model X.prog X.w) X.A (eval b X.env) (λu s₂=>wpAny (model X.prog X.w) X.A (f v u) Q X.xe s₂) X.xe s₁) X.xe s:=by
 refine thn (ha pins s σ H _ I h) λv s1 ⟨x,H1,I1,r1,q1⟩=>?_
 refine thn (hb pins s1 σ H1 _ I1 q1) λu s2 ⟨y,H2,I2,r2,q2⟩=>?_
 exact hf v u s2 x y H2 I2 r1 r2 q2
noncomputable def Cf (i:Nat):TE:=λσ H Q=>∃ v,σ[i]? = some (some v)/\Q v H
noncomputable def tC (v:V):TE:=λ_ H Q=>Q v H
theorem DX (hN:X.N[i]? = some x)(hv:Vis X.env.scope x)(hd:(x==("__debug__" :Str))=false:=by decide)(hcd:(x==("__classdict__" :Str))=false:=by decide):PE X (.Name x pos) (Cf i):=by
 intro pins s σ H Q I h
 obtain⟨v,e,h⟩:=h
 obtain⟨m,hn,hl⟩:=I.loc
 obtain⟨u,r,l⟩:=hl i x v hN e hv
 have fin:EP X pins σ Q u s:=⟨v,H,I,r,h⟩
 rcases l with⟨hk,hm⟩|⟨hk,c,hc,GB⟩
 ·exact wpAny_Name (wpAny_loadName_local I.ok.kind hk hn hm fin) hd
 ·rcases hk with hk |hk
  ·exact wpAny_Name (wpAny_loadName_cell I.ok.kind hk hc GB fin) hd
  ·exact wpAny_Name (wpAny_loadName_free I.ok.kind hk hc GB fin hcd) hd
theorem fc {i j pos} :PE X (.Constant (.int i) j pos) (tC (.int i)):=λ_ _ _ H _ I h=>wpAny_Constant_int ⟨.int i,H,I.tok _,⟨_,rfl⟩,h⟩
theorem pB {b j pos} :PE X (.Constant (.bool b) j pos) (tC (.bl b)):=λ_ _ _ H _ I h=>Constant_bool ⟨.bl b,H,I,rfl,h⟩
theorem lH {j pos} :PE X (.Constant .none j pos) (tC .non):=λ_ _ _ H _ I h=>Constant_none ⟨.non,H,I,rfl,h⟩
theorem fw {x j pos} :PE X (.Constant (.str x) j pos) (tC (.str x)):=λ_ _ _ H _ I h=>Calls.Constant_str ⟨.str x,H,I.tok _,⟨_,rfl⟩,h⟩
noncomputable def Gl (X:Cx)(x:Str):Prop:=X.env.kindOf x=some .globalImplicit
theorem p9 {E:Value->Shared->Prop}{pos:Pos}(I:Inv X pins σ H s)(hg:Gl X x)(hm:X.mg x=some u)(h:Q u s)
  (hd:(x==("__debug__" :Str))=false:=by decide):wpAny (model X.prog X.w) X.A (eval (.Name x pos) X.env) Q E s:=
 Calls.Name_function_global I.ok.kind hg (Calls.loadGlobal_global (by rw[I.ok.glob];exact I.mod.glob.keeps I.bk) hm h) hd
theorem qC {E:Value->Shared->Prop}{pos:Pos}(I:Inv X pins σ H s)(hg:Gl X x)(hm:X.mg x=none)(hv:bootBuiltins x=some u)(h:Q u s)
  (hn:x≠ "__name__" :=by decide) (hd:(x==("__debug__" :Str))=false:=by decide):wpAny (model X.prog X.w) X.A (eval (.Name x pos) X.env) Q E s:=by
 obtain⟨mb,h1,h2⟩:=I.mod.blt
 exact Calls.Name_function_global I.ok.kind hg (Calls.loadGlobal_builtin (by rw[I.ok.glob];exact I.mod.glob.keeps I.bk) hm (by rw[I.ok.blt];exact h1.keeps I.bk) ((h2 x hn).trans hv) h) hd
theorem jB {v:V}(hg:Gl X x)(hm:X.mg x=some u)(r:RelV v u)(hd:(x==("__debug__" :Str))=false:=by decide):PE X (.Name x pos) (tC v):=
 λ_ _ _ H _ I h=>p9 I hg hm ⟨v,H,I,r,h⟩ hd
theorem Br {v:V}(hg:Gl X x)(hm:X.mg x=none)(hv:bootBuiltins x=some u)(r:RelV v u)(hn:x≠ "__name__" :=by decide)(hd:(x==("__debug__" :Str))=false:=by decide):PE X (.Name x pos) (tC v):=
 λ_ _ _ H _ I h=>qC I hg hm hv ⟨v,H,I,r,h⟩ hn hd
noncomputable def t2I (ta tb:TE)(k:Int->Int->Hp->Prop):St->Hp->Prop:=λσ H=>ta σ H λx H1=>tb σ H1 λy H2=>∃ i j,x = .int i/\y = .int j/\k i j H2
variable {a b:Expr}{ta tb:TE}{pos:Pos}
noncomputable def PC (X:Cx)(op:CmpOp)(a b:Expr)(t:TE):Prop:=
 ∀ (pins:List (Addr×Obj)) (s:Shared) (σ:St) (H:Hp) (Q:VK),Inv X pins σ H s->t σ H Q->
  wpAny (model X.prog X.w) X.A (eval a X.env) (λv s₁=>wpAny (model X.prog X.w) X.A (eval b X.env) (λu s₂=>wpAny (model X.prog X.w) X.A (compareOp op v u) (EP X pins σ Q) X.xe s₂) X.xe s₁) X.xe s
theorem zC (b:Expr)(h:op≠ .In)(h2:op≠ .NotIn):behindInMarks op b=false:=by
 have e1:(op==CmpOp.In)=false:=by cases op<;>first |rfl |exact absurd rfl h
 have e2:(op==CmpOp.NotIn)=false:=by cases op<;>first |rfl |exact absurd rfl h2
 cases b<;>simp[behindInMarks,e1,e2]
noncomputable def Ap (p:Int->Int->Bool)(ta tb:TE):TE:=λσ H Q=>t2I ta tb (λi j H2=>Q (.bl (p i j)) H2) σ H
noncomputable abbrev tLt:TE->TE->TE:=Ap λi j=>decide (i<j)
noncomputable abbrev tLe:TE->TE->TE:=Ap λi j=>decide (i<=j)
noncomputable abbrev tGt:TE->TE->TE:=Ap λi j=>decide (j<i)
noncomputable abbrev tGe:TE->TE->TE:=Ap λi j=>decide (j<=i)
noncomputable abbrev J6:TE->TE->TE:=Ap λi j=>decide (i=j)
noncomputable abbrev JX:TE->TE->TE:=Ap λi j=> !decide (i=j)
theorem uH {p:Int->Int->Bool}(ha:PE X a ta)(hb:PE X b tb)
  (rule:∀ (i j:Int) (t u:Tok) (Q:Value->Shared->Prop) (s:Shared),Q (.bool (p i j)) s->wpAny (model X.prog X.w) X.A (compareOp op (.int i t) (.int j u)) Q X.xe s):PC X op a b (Ap p ta tb):=by
 intro pins s σ H Q I h
 refine bin ha hb I h λv u s2 x y H2 I2 rx ry q=>?_
 obtain⟨i,j,rfl,rfl,q⟩:=q
 obtain⟨t,rfl⟩:=rx
 obtain⟨t',rfl⟩:=ry
 exact rule i j t t' _ s2 ⟨.bl _,H2,I2,rfl,q⟩
theorem tq (ha:PE X a ta)(hb:PE X b tb):PC X .Lt a b (tLt ta tb):=uH ha hb λ_ _ _ _ _ _ h=>lt_int h
theorem wO (ha:PE X a ta)(hb:PE X b tb):PC X .Gt a b (tGt ta tb):=uH ha hb λ_ _ _ _ _ _ h=>gt_int h
theorem Gp (ha:PE X a ta)(hb:PE X b tb):PC X .GtE a b (tGe ta tb):=uH ha hb λ_ _ _ _ _ _ h=>ge_int h
theorem qy (ha:PE X a ta)(hb:PE X b tb):PC X .Eq a b (J6 ta tb):=uH ha hb λ_ _ _ _ _ _ h=>eq_int (by rw[Bool.beq_eq_decide_eq];exact h)
theorem Hd (ha:PE X a ta)(hb:PE X b tb):PC X .NotEq a b (JX ta tb):=uH ha hb λ_ _ _ _ _ _ h=>ne_int (by rw[bne,Bool.beq_eq_decide_eq];exact h)
noncomputable def JZ (ta:TE):TE:=λσ H Q=>ta σ H λx H1=>Q (.bl (decide (x = .non))) H1
noncomputable def IA (ta:TE):TE:=λσ H Q=>ta σ H λx H1=>Q (.bl (!decide (x = .non))) H1
theorem RelV.zA {x:V}{v:Value}(r:RelV x v):(v==Value.none)=decide (x = .non):=by
 cases x with
 |non=>cases r;rfl
 |bl _=>cases r;rfl
 |int _=>obtain⟨t,rfl⟩:=r;rfl
 |str _=>obtain⟨t,rfl⟩:=r;rfl
 |byt _=>obtain⟨t,rfl⟩:=r;rfl
 |flt _=>obtain⟨t,rfl⟩:=r;rfl
 |ref _=>cases r;rfl
 |ty _=>cases r;rfl
theorem rX {j pos'}(ha:PE X a ta):PC X .Is a (.Constant .none j pos') (JZ ta):=by
 intro pins s σ H Q I h
 refine thn (ha pins s σ H _ I h) λv s1 ⟨x,H1,I1,r1,q1⟩=>?_
 exact Constant_none (is_none_gen ⟨.bl _,H1,I1,by rw[r1.zA];rfl,q1⟩)
theorem Bs {j pos'}(ha:PE X a ta):PC X .IsNot a (.Constant .none j pos') (IA ta):=by
 intro pins s σ H Q I h
 refine thn (ha pins s σ H _ I h) λv s1 ⟨x,H1,I1,r1,q1⟩=>?_
 exact Constant_none (isnot_none_gen ⟨.bl _,H1,I1,by rw[r1.zA];rfl,q1⟩)
noncomputable def tB (t:TE):TT:=λσ H Q=>t σ H λx H1=>∃ c,x = .bl c/\Q c H1
theorem Hb {t:TE}(h:PC X op a b t)(h1:behindInMarks op b=false:=by first |exact zC _ (by decide) (by decide)|rfl):PE X (.Compare a [op] [b] pos) t:=λpins s σ H Q I hw=>wpAny_Compare1 (h pins s σ H Q I hw) h1
theorem gw {t:TE}(h:PC X op a b t)(h1:behindInMarks op b=false:=by first |exact zC _ (by decide) (by decide)|rfl):PT X (.Compare a [op] [b] pos) (tB t):=by
 intro pins s σ H Q I hw
 refine wpAny_isTrue_Compare1 (thn (h pins s σ H _ I hw) λv s1 h1=>thn h1 λu s2 h2=>thn h2 λc s3 ⟨x,H1,I1,r1,q1⟩=>?_) h1
 obtain⟨d,rfl,q⟩:=q1
 cases r1
 exact cJ ⟨H1,I1,q⟩
theorem ni {t:TE}(h:PE X e t)(he:∀ whole,isTrue e X.env whole=(do let v <-whole;standAt e.pos;holding [v] (truthy v)):=by intro _;rfl):PT X e (tB t):=by
 intro pins s σ H Q I hw
 refine isTrue_plain (thn (h pins s σ H _ I hw) λv s1 ⟨x,H1,I1,r1,q1⟩=>?_) (he _)
 obtain⟨d,rfl,q⟩:=q1
 cases r1
 exact cJ ⟨H1,I1,q⟩
variable {tA tB':TT}{rest:List Expr}
noncomputable def J8 (t u:TT):TT:=λσ H Q=>t σ H λc H1=>if c=true then u σ H1 Q else Q false H1
noncomputable def tOr (t u:TT):TT:=λσ H Q=>t σ H λc H1=>if c=true then Q true H1 else u σ H1 Q
noncomputable def JW (t:TT):TT:=λσ H Q=>t σ H λc H1=>Q (!c) H1
theorem qY (ha:PT X a tA):PW X (.BoolOp .And [a] pos) tA:=by
 intro wh pins s σ H Q I h
 refine isTrue_and (thn (ha pins s σ H Q I h) λc s1 e=>?_)
 cases c with
 |true=>exact isTrue_and_nil e
 |false=>exact e
theorem rT (ha:PT X a tA):PW X (.BoolOp .Or [a] pos) tA:=by
 intro wh pins s σ H Q I h
 refine isTrue_or (thn (ha pins s σ H Q I h) λc s1 e=>?_)
 cases c with
 |false=>exact isTrue_or_nil e
 |true=>exact e
theorem uD (ha:PT X a tA)(hb:PW X (.BoolOp .And (b::rest) pos) tB'):PW X (.BoolOp .And (a::b::rest) pos) (J8 tA tB'):=by
 intro wh pins s σ H Q I h
 refine isTrue_and (thn (ha pins s σ H _ I h) λc s1 ⟨H1,I1,q1⟩=>?_)
 cases c with
 |true=>exact hb wh pins s1 σ H1 Q I1 q1
 |false=>exact⟨H1,I1,q1⟩
theorem uC (ha:PT X a tA)(hb:PW X (.BoolOp .Or (b::rest) pos) tB'):PW X (.BoolOp .Or (a::b::rest) pos) (tOr tA tB'):=by
 intro wh pins s σ H Q I h
 refine isTrue_or (thn (ha pins s σ H _ I h) λc s1 ⟨H1,I1,q1⟩=>?_)
 cases c with
 |true=>exact⟨H1,I1,q1⟩
 |false=>exact hb wh pins s1 σ H1 Q I1 q1
theorem kT (ha:PT X a tA):PT X (.UnaryOp .Not a pos) (JW tA):=by
 intro pins s σ H Q I h
 exact isTrue_not (ha pins s σ H (λc H1=>Q (!c) H1) I h)
noncomputable def tIf (t:TT)(ta tb:TE):TE:=λσ H Q=>t σ H λc H1=>if c=true then ta σ H1 Q else tb σ H1 Q
theorem D6 {c:Expr}(hc:PT X c tA)(ha:PE X a ta)(hb:PE X b tb):PE X (.IfExp c a b pos) (tIf tA ta tb):=by
 intro pins s σ H Q I h
 refine wpAny_IfExp (thn (hc pins s σ H _ I h) λd s1 ⟨H1,I1,q1⟩=>?_)
 cases d with
 |true=>exact ha pins s1 σ H1 Q I1 q1
 |false=>exact hb pins s1 σ H1 Q I1 q1
end
noncomputable def SqL (K:PySem.W.Frag)(H:Hp)(a:Addr)(xs:List V):Prop:=
 Rd H a (.lst xs)\/
  ∃ (o:Obj) (its:Array Value) (n:Nat),K.lookup a=some o/\o.cls = .type "list" /\o.dict=none/\o.data = .seq its n/\its.size<=sizeLine/\Vals xs its.toList
noncomputable def SqT (K:PySem.W.Frag)(H:Hp)(a:Addr)(xs:List V):Prop:=
 Rd H a (.tup xs)\/
  ∃ (o:Obj) (its:Array Value) (n:Nat),K.lookup a=some o/\o.cls = .type "tuple" /\o.data = .seq its n/\its.size<=sizeLine/\Vals xs its.toList
noncomputable def Sa:Value->Option V
 |.none=>some .non
 |.bool b=>some (.bl b)
 |.int i _=>some (.int i)
 |.str x _=>some (.str x)
 |.bytes b _=>some (.byt b)
 |.float b _=>some (.flt b)
 |.ref a=>some (.ref a)
 |.type n=>some (.ty n)
 |_=>none
theorem RelV.abs {x:V}(r:RelV x u):Sa u=some x:=by
 cases x with
 |non=>cases r;rfl
 |bl _=>cases r;rfl
 |int _=>obtain⟨t,rfl⟩:=r;rfl
 |str _=>obtain⟨t,rfl⟩:=r;rfl
 |byt _=>obtain⟨t,rfl⟩:=r;rfl
 |flt _=>obtain⟨t,rfl⟩:=r;rfl
 |ref _=>cases r;rfl
 |ty _=>cases r;rfl
theorem RelV.inj {x y:V}(r:RelV x u)(q:RelV y u):x=y:=bx (r.abs.symm.trans q.abs)
theorem Vals.inj:∀ {xs ys:List V}{us:List Value},Vals xs us->Vals ys us->xs=ys
 |_,_,_,.nil,.nil=>rfl
 |_,_,_,.cons r t,.cons r' t'=>by rw[r.inj r',Vals.inj t t']
variable {K:PySem.W.Frag}
section
variable {X:Cx}{pins:List (Addr×Obj)}{σ:St}{H:Hp}{s:Shared}{a:Addr}{xs ys:List V}
theorem SqL.of (h:H a=some (.lst xs)):SqL K H a xs:=.inl (.inl h)
theorem SqT.of (h:H a=some (.tup xs)):SqT K H a xs:=.inl (.inl h)
theorem Inv.list (I:Inv X pins σ H s)(h:SqL X.K H a xs):∃ its:List Value,Vals xs its/\PlainL s.heap a its.toArray/\xs.length<=sizeLine:=by
 rcases h with h |⟨o,its,n,hk,hc,hd,hs,hz,r⟩
 ·obtain⟨z,its,n,r,e⟩:=h.ok I.hok
  exact⟨its,r,⟨_,n,e,rfl,rfl,rfl⟩,z⟩
 ·refine⟨its.toList,r,⟨o,n,I.kIn a o hk,hc,hd,by simpa using hs⟩,?_⟩
  have e:=r.length
  simp only[ah]at e
  omega
theorem Inv.tuple (I:Inv X pins σ H s)(h:SqT X.K H a xs):∃ its:List Value,Vals xs its/\IsTup s.heap a its.toArray/\xs.length<=sizeLine:=by
 rcases h with h |⟨o,its,n,hk,hc,hs,hz,r⟩
 ·obtain⟨z,its,r,p⟩:=h.ok I.hok
  exact⟨its,r,p,z⟩
 ·refine⟨its.toList,r,⟨o,I.kIn a o hk,hc,n,by simpa using hs⟩,?_⟩
  have e:=r.length
  simp only[ah]at e
  omega
theorem Inv.pE (I:Inv X pins σ H s)(h:SqL X.K H a xs)(h':SqL X.K H a ys):xs=ys:=by
 obtain⟨its,r,⟨o,n,e,_,_,d⟩,_⟩:=I.list h
 obtain⟨its',r',⟨o',n',e',_,_,d'⟩,_⟩:=I.list h'
 rw[e]at e';cases e'
 rw[d]at d'
 injection d' with d1 _
 have:its=its':=by simpa using cg Array.toList d1
 subst this
 exact r.inj r'
end
noncomputable abbrev Cx.tP (X:Cx)(E:Value->Shared->Prop):Cx:={X with xe:=E}
noncomputable abbrev Cx.nox (X:Cx):Cx:=X.tP λ_ _=>False
theorem Cx.Ok.tP {X:Cx}(ok:X.Ok)(E:Value->Shared->Prop):(X.tP E).Ok:=
 ⟨ok.mod,ok.kind,ok.glob,ok.blt,ok.above,ok.inj,ok.has,ok.cab,ok.hd,ok.frames,ok.stk,ok.exf,ok.bs,ok.bsz,ok.AI,ok.CP,ok.rm,ok.frf⟩
theorem Cx.Ok.m9 {X:Cx}(ok:(X.tP E).Ok):X.Ok:=
 ⟨ok.mod,ok.kind,ok.glob,ok.blt,ok.above,ok.inj,ok.has,ok.cab,ok.hd,ok.frames,ok.stk,ok.exf,ok.bs,ok.bsz,ok.AI,ok.CP,ok.rm,ok.frf⟩
section
variable {X:Cx}{pins:List (Addr×Obj)}{σ:St}{H:Hp}{s:Shared}{E:Value->Shared->Prop}
theorem Inv.tP (I:Inv X pins σ H s)(E:Value->Shared->Prop):Inv (X.tP E) pins σ H s:=⟨I.ok.tP E,I.os,I.bare,I.base,I.loc,I.cell,I.free,I.lD,I.pin,I.hok,I.len⟩
theorem Inv.m9 (I:Inv (X.tP E) pins σ H s):Inv X pins σ H s:=⟨I.ok.m9,I.os,I.bare,I.base,I.loc,I.cell,I.free,I.lD,I.pin,I.hok,I.len⟩
theorem SP.m9 {D:Ends}{f:Flow}{s':Shared}(h:SP (X.tP E) pins D f s'):SP X pins D f s':=by
 cases f with
 |next=>obtain⟨σ',H',I,q⟩:=h;exact⟨σ',H',I.m9,q⟩
 |brk=>obtain⟨σ',H',I,q⟩:=h;exact⟨σ',H',I.m9,q⟩
 |cont=>obtain⟨σ',H',I,q⟩:=h;exact⟨σ',H',I.m9,q⟩
 |ret u=>obtain⟨v,σ',H',I,r,q⟩:=h;exact⟨v,σ',H',I.m9,r,q⟩
theorem PSs.nox {st:List Stmt}{t:TS}(h:PSs X.nox st t):PSs X st t:=λpins s σ H D I hw=>
 aY (h pins s σ H D (I.tP _) hw) (λ_ _ q=>q.m9) λ_ _ z=>False.elim z
end
section
variable {X:Cx}{st:Stmt}{rest:List Stmt}{t u:TS}{e:Expr}{te:TE}{pos:Pos}
noncomputable def IB:TS:=λD σ H=>D.nx σ H
noncomputable def Fg (t u:TS):TS:=λD σ H=>t {D with nx:=u D} σ H
theorem fD:PSs X [] IB:=λ_ _ σ H _ I h=>wpAny_execs_nil ⟨σ,H,I,h⟩
theorem fb (h1:PS X st t)(h2:PSs X rest u):PSs X (st::rest) (Fg t u):=by
 intro pins s σ H D I h
 refine wpAny_execs_cons (thn (h1 pins s σ H {D with nx:=u D} I h) λf s1 q=>?_)
 cases f with
 |next=>
  obtain⟨σ',H',I',q⟩:=q
  exact h2 pins s1 σ' H' D I' q
 |ret v=>exact q
 |brk=>exact q
 |cont=>exact q
theorem fe (h1:PS X st t):PSs X [st] t:=by
 intro pins s σ H D I h
 refine wpAny_execs_cons (thn (h1 pins s σ H D I h) λf s1 q=>?_)
 cases f with
 |next=>exact wpAny_execs_nil q
 |ret v=>exact q
 |brk=>exact q
 |cont=>exact q
theorem Inv.quiet (I:Inv X pins σ H s):interactive X.env=false:=by simp[interactive,I.ok.kind]
noncomputable def IE (te:TE):TS:=λD σ H=>te σ H λ_ H1=>D.nx σ H1
theorem kC (he:PE X e te)(hs:swapsWith e none pos.line X.env=pure false:=by rfl):PS X (.Expr e pos) (IE te):=by
 intro pins s σ H D I h
 exact wpAny_Expr_any (thn (he pins s σ H _ I h) λv s1 ⟨x,H1,I1,r1,q1⟩=>⟨σ,H1,I1,q1⟩) I.quiet hs
noncomputable def JV (te:TE):TS:=λD σ H=>te σ H D.rt
theorem fz (he:PE X e te):PS X (.Return (some e) pos) (JV te):=by
 intro pins s σ H D I h
 exact wpAny_Return_some (thn (he pins s σ H _ I h) λv s1 ⟨x,H1,I1,r1,q1⟩=>⟨x,σ,H1,I1,r1,q1⟩)
noncomputable def J0 (c:TT)(t u:TS):TS:=λD σ H=>c σ H λb H1=>if b=true then t D σ H1 else u D σ H1
theorem gf {c:Expr}{a b:List Stmt}{tc:TT}(hc:PT X c tc)(ha:PSs X a t)(hb:PSs X b u):PS X (.If c a b pos) (J0 tc t u):=by
 intro pins s σ H D I h
 refine wpAny_If (thn (hc pins s σ H _ I h) λd s1 ⟨H1,I1,q1⟩=>?_)
 cases d with
 |true=>exact ha pins s1 σ H1 D I1 q1
 |false=>exact hb pins s1 σ H1 D I1 q1
end
noncomputable abbrev TG:=V->St->Hp->(St->Hp->Prop)->Prop
noncomputable abbrev TGs:=List V->St->Hp->(St->Hp->Prop)->Prop
noncomputable def PG (X:Cx)(target:Expr)(t:TG):Prop:=
 ∀ (pins:List (Addr×Obj)) (s:Shared) (σ:St) (H:Hp) (v:V) (u:Value) (Q:St->Hp->Prop),Inv X pins σ H s->RelV v u->t v σ H Q->
  wpAny (model X.prog X.w) X.A (assign target X.env u) (λ_ s'=>∃ σ' H',Inv X pins σ' H' s'/\Q σ' H') X.xe s
noncomputable def PGs (X:Cx)(ts:List Expr)(t:TGs):Prop:=
 ∀ (pins:List (Addr×Obj)) (s:Shared) (σ:St) (H:Hp) (vs:List V) (us:List Value) (Q:St->Hp->Prop),Inv X pins σ H s->Vals vs us->t vs σ H Q->
  wpAny (model X.prog X.w) X.A (assignInOrder ((assignEach ts X.env).map (·.2)) us) (λ_ s'=>∃ σ' H',Inv X pins σ' H' s'/\Q σ' H') X.xe s
noncomputable abbrev Ib:=V->V->V->Hp->(Hp->Prop)->Prop
noncomputable def JO (X:Cx)(t:Ib):Prop:=
 ∀ (pins:List (Addr×Obj)) (s:Shared) (σ:St) (H:Hp) (o i v:V) (ov iv u:Value) (Q:Hp->Prop),Inv X pins σ H s->RelV o ov->RelV i iv->RelV v u->t o i v H Q->
  wpAny (model X.prog X.w) X.A (setItem ov iv u) (λ_ s'=>∃ H',Inv X pins σ H' s'/\Q H') X.xe s
noncomputable abbrev TIp:=V->V->Hp->VK->Prop
section
variable {X:Cx}{pos:Pos}
noncomputable def pG (i:Nat):TG:=λv σ H Q=>Q (σ.set i (some v)) H
theorem ft (hN:X.N.Nodup)(hi:X.N[i]? = some x)(hx:Loc X.env.scope x)(hf:X.fn x=true\/X.env.scope.names.lookup x=some .local:=by first |exact .inl rfl |exact .inr rfl |assumption):PG X (.Name x pos) (pG i):=by
 intro pins s σ H v u Q I r h
 exact wpAny_assign_Name (um I hN hi hx r (λs' I'=>⟨_,H,I',h⟩) hf)
noncomputable def HM:TGs:=λvs σ H Q=>vs = []/\Q σ H
noncomputable def zW (t:TG)(u:TGs):TGs:=λvs σ H Q=>∃ v r,vs=v::r/\t v σ H λσ' H'=>u r σ' H' Q
theorem g9:PGs X [] HM:=by
 intro pins s σ H vs us Q I r h
 obtain⟨e,h⟩:=h
 subst e
 cases r
 exact assignInOrder_nil ⟨σ,H,I,h⟩
theorem fH {es:List Expr}{t:TG}{u:TGs}(h1:PG X e t)(h2:PGs X es u)
  (hs:(assignEach (e::es) X.env).map (·.2)=assign e X.env::(assignEach es X.env).map (·.2):=by rfl):PGs X (e::es) (zW t u):=by
 intro pins s σ H vs us Q I r h
 obtain⟨v,vr,e1,h⟩:=h
 subst e1
 cases r with
 |cons r rr=>
  rw[hs]
  refine assignInOrder_cons (thn (h1 pins s σ H _ _ _ I r h) λ_ s1 ⟨σ1,H1,I1,q1⟩=>?_)
  exact h2 pins s1 σ1 H1 _ _ Q I1 rr q1
noncomputable def HK (K:PySem.W.Frag)(n:Nat)(t:TGs):TG:=λv σ H Q=>∃ a xs,v = .ref a/\SqT K H a xs/\xs.length=n/\t xs σ H Q
theorem jr {es:List Expr}{k:Nat}{t:TGs}{n:Nat}(hc:X.calm=true)(h:PGs X es t)
  (hn:(assignEach es X.env).length=n:=by rfl) (hst:(assignEach es X.env).findIdx? (·.1)=none:=by rfl):PG X (.Tuple es k pos) (HK X.K n t):=by
 intro pins s σ H v u Q I r hw
 obtain⟨a,xs,e1,hq,hl,hw⟩:=hw
 subst e1
 cases r
 obtain⟨its,rv,ht,hz⟩:=I.tuple hq
 refine assign_Tuple_tuple (I.ok.hd hc) ht (by simp[hn,<-hl,rv.length]) hst λh' hx=>?_
 have I1:Inv X pins σ H {s with heap:=h'} :=I.kept (t':=s.toks) λb o e=>hx b o (aK (ay e)) e
 exact h pins _ σ H xs _ Q I1 (by simpa using rv) hw
noncomputable def OU (to ti:TE)(t:Ib):TG:=λv σ H Q=>to σ H λo H1=>ti σ H1 λi H2=>t o i v H2 λH3=>Q σ H3
theorem xP {o i:Expr}{to ti:TE}{t:Ib}(ho:PE X o to)(hi:PE X i ti)(hs:JO X t)
  (ha:∀ v,assign (.Subscript o i pos) X.env v=(do
   let ov <-holding [v] (eval o X.env)
   let iv <-holding [v,ov] (eval i X.env)
   standAt pos
   holding [v,ov,iv] (setItem ov iv v)
   release [v,ov,iv] []):=by intro _;rfl):PG X (.Subscript o i pos) (OU to ti t):=by
 intro pins s σ H v u Q I r h
 rw[ha]
 refine ae (bh (thn (ho pins s σ H _ I h) λov s1 ⟨x,H1,I1,r1,q1⟩=>?_))
 refine ae (bh (thn (hi pins s1 σ H1 _ I1 q1) λiv s2 ⟨y,H2,I2,r2,q2⟩=>?_))
 refine ae (cm (ae (bh (thn (hs pins s2 σ H2 x y v ov iv u _ I2 r1 r2 r q2) λ_ s3 ⟨H3,I3,q3⟩=>?_))))
 exact wpAny_release ⟨σ,H3,I3,q3⟩
noncomputable def GX (te:TE)(g:TG):TS:=λD σ H=>te σ H λx H1=>g x σ H1 D.nx
theorem mD {tg:Expr}{te:TE}{g:TG}(he:PE X e te)(hg:PG X tg g)(hs:swapsWithSole [tg] e pos.line X.env=pure false:=by rfl)(hw:swappedStores [tg] e X.env=pure none:=by rfl)
  (h1:(assignEach [tg] X.env).map (·.2) = [assign tg X.env]:=by rfl):PS X (.Assign [tg] e pos) (GX te g):=by
 intro pins s σ H D I h
 refine wpAny_Assign_stores (thn (he pins s σ H _ I h) λv s1 ⟨x,H1,I1,r1,q1⟩=>?_) hs hw
 rw[h1]
 exact thn (hg pins s1 σ H1 x v _ I1 r1 q1) λ_ s2 q=>q
theorem fQ {te:TE}{pos':Pos}(hN:X.N.Nodup)(hi:X.N[i]? = some x)(hx:Loc X.env.scope x)(he:PE X e te)(hs:swapsWith e (some (.Name x pos')) pos.line X.env=pure false:=by rfl)(hf:X.fn x=true\/X.env.scope.names.lookup x=some .local:=by first |exact .inl rfl |exact .inr rfl |assumption):
  PS X (.Assign [.Name x pos'] e pos) (GX te (pG i)):=by
 intro pins s σ H D I h
 refine wpAny_Assign_Name (thn (he pins s σ H _ I h) λv s1 ⟨y,H1,I1,r1,q1⟩=>?_) hs
 exact um I1 hN hi hx r1 (λs2 I2=>⟨_,H1,I2,q1⟩) hf
end
structure It where
 go:Nat->Hp->Prop
 yld:Nat->Hp->V->Hp->Prop
 stop:Nat->Hp->Prop
noncomputable def nC (X:Cx)(pins:List (Addr×Obj))(H:Hp)(b:Addr):Prop:=
 H b=none/\b≠X.env.locals/\b∉X.fs/\(b∈X.ex\/X.s₀.heap.objs.size<=b)/\(∀ x c,X.env.cells.lookup x=some c->c≠b)/\∀ p∈X.pn++pins,p.1≠b
theorem Inv.EJ {X:Cx}{H':Hp}(I:Inv X pins σ H s)(hb:s.heap.objs.size<=b)(hn:H' b=none):nC X pins H' b:=by
 refine⟨hn,Nat.ne_of_gt (aT I.lt hb),I.Nr hb,.inr (bq I.sz hb),λx c e z=>?_,λp hp z=>?_⟩
 ·obtain⟨v,q⟩:=I.cell x c e
  exact absurd (aT q.lt (by rw[z];exact hb)) (cf _)
 ·exact absurd (aT (ay (I.pin p hp).1) (by rw[z];exact hb)) (cf _)
structure Turn (P:Program)(w:World)(K:PySem.W.Frag)(tg:Expr)(J:It)(fp:List Addr)(it:Addr)(tn:Nat->Heap->Prop):Prop where
 mem:it∈fp
 obj:∀ i h,tn i h->∀ b∈fp,∃ o,h.get? b=some o/\∀ v,o.data≠ .cell v
 keep:∀ i h h',tn i h->(∀ b∈fp,∀ o,h.get? b=some o->h'.get? b=some o)->tn i h'
 item:∀ (X:Cx),X.prog=P->X.w=w->X.K=K->X.calm=true->∀ (i:Nat) (pins:List (Addr×Obj)) (s:Shared) (σ:St) (H:Hp) (E:Value->Shared->Prop),Inv X pins σ H s->(∀ b∈fp,nC X pins H b)->tn i s.heap->J.go i H->
  wpAny (model P w) X.A (pyNext (.ref it)) (λr s1=>∃ u,r=some u/\
   wpAny (model P w) X.A (letOwnedTupleGo tg (.ref it) u) (λ_ s2=>∃ x H',Inv X pins σ H' s2/\RelV x u/\J.yld i H x H'/\tn (i+1) s2.heap/\∀ b∈fp,H' b=none) E s1) E s
 done:∀ (X:Cx),X.prog=P->X.w=w->X.K=K->X.calm=true->∀ (i:Nat) (pins:List (Addr×Obj)) (s:Shared) (σ:St) (H:Hp) (E:Value->Shared->Prop),Inv X pins σ H s->(∀ b∈fp,nC X pins H b)->tn i s.heap->J.stop i H->
  wpAny (model P w) X.A (pyNext (.ref it)) (λr s1=>r=none/\Inv X pins σ H s1) E s
 self:∀ (A:Around) (i:Nat) (s:Shared) (Q:Value->Shared->Prop) (E:Value->Shared->Prop),tn i s.heap->Q (.ref it) s->wpAny (model P w) A (pyIter (.ref it)) Q E s
noncomputable abbrev TI:=St->Hp->(It->Hp->Prop)->Prop
noncomputable def PIE (X:Cx)(pins:List (Addr×Obj))(σ:St)(tg:Expr)(R:It->Hp->Prop)(itv:Value)(s2:Shared):Prop:=
 ∃ (it:Addr) (fp:List Addr) (tn:Nat->Heap->Prop) (J:It) (H':Hp),itv = .ref it/\Inv X pins σ H' s2/\Turn X.prog X.w X.K tg J fp it tn/\tn 0 s2.heap/\(∀ b∈fp,nC X pins H' b)/\R J H'
noncomputable def PI (X:Cx)(tg iter:Expr)(wi:TI):Prop:=
 ∀ (pins:List (Addr×Obj)) (s:Shared) (σ:St) (H:Hp) (R:It->Hp->Prop),Inv X pins σ H s->wi σ H R->
  wpAny (model X.prog X.w) X.A (eval iter X.env) (λv s1=>wpAny (model X.prog X.w) X.A (pyIter v) (PIE X pins σ tg R) X.xe s1) X.xe s
theorem zV {M : Model} {A : Around} {E : Value → Shared → Prop} {s : Shared} {tg : Expr} {it : Addr} {u : Value} {o : Obj} {n : String} {vs : Array Value} {Q : Unit → Shared → Prop} (ho : s.heap.get? it = some o) (hc : o.cls = .type n) (hd : o.data = .fields vs)
    (hn : ["enumerate", "zip", "dict_itemiterator", "dict_reverseitemiterator", "odict_iterator", "itertools.zip_longest", "itertools.pairwise"].contains n = false) (hQ : Q () s) : wpAny M A (letOwnedTupleGo tg (.ref it) u) Q E s := by
  unfold letOwnedTupleGo
  cases tg <;> first
    | exact aj hQ
    | (cases u <;> first
        | exact aj hQ
        | (refine ae (wpAny_load ho ?_)
           rw [hc, hd]
           show wpAny M A (if (["enumerate", "zip", "dict_itemiterator", "dict_reverseitemiterator", "odict_iterator", "itertools.zip_longest", "itertools.pairwise"].contains n && vs[0]? == some (rawInt _)) = true then _ else _) Q E s
           rw [au (by intro h; rw [hn, Bool.false_and] at h; cases h)]
           exact aj hQ))
noncomputable def Itl (K:PySem.W.Frag)(a:Addr):It:=
 ⟨λi H=>∃ xs x,SqL K H a xs/\xs[i]? = some x,λi H x H'=>H'=H/\∀ xs,SqL K H a xs->xs[i]? = some x,λi H=>∃ xs,SqL K H a xs/\xs.length<=i⟩
noncomputable def Itr (lo:Int)(n:Nat):It:=⟨λi _=>i<n,λi H x H'=>H'=H/\x = .int (lo+i),λi _=>n<=i⟩
theorem Cd {tg:Expr}(a it:Addr):Turn P w K tg (Itl K a) [it] it (λi h=>h.IsListIter it a i) where
 mem:=by simp
 obj:=λi h st b hb=>by
  have e:b=it:=by simpa using hb
  subst e
  obtain⟨o,e,c,d⟩:=st
  exact⟨o,e,λv z=>by rw[d]at z;cases z⟩
 keep:=λi h h' st k=>st.at λo e=>k it (by simp) o e
 item:=by
  intro X hP hw hK hc i pins s σ H E I hf st hg
  subst hP hw hK
  obtain⟨xs,x,hq,hx⟩:=hg
  obtain⟨its,rv,p,hz⟩:=I.list hq
  obtain⟨u,hu,ru⟩:=rv.get hx
  obtain⟨f0,f1,f2,f3,f4,f5⟩:=hf it (by simp)
  refine wpAny_pyNext_list_item st p.isList (x:=u) (by simpa using hu) λh' st' sb=>?_
  have I1:Inv X pins σ H {s with heap:=h'} :=I.turned (t':=s.toks) (λb o hb e=>(sb.2 b hb).trans e) f0 f1 f3 f4 f5
  obtain⟨o,e,c,d⟩:=id st'
  exact⟨u,rfl,zV (s:={s with heap:=h'}) e c d (by decide) ⟨x,H,I1,ru,⟨rfl,λys hy=>by rw[I.pE hy hq];exact hx⟩,st',λb hb=>(hf b hb).1⟩⟩
 done:=by
  intro X hP hw hK hc i pins s σ H E I hf st hg
  subst hP hw hK
  obtain⟨xs,hq,hx⟩:=hg
  obtain⟨its,rv,p,hz⟩:=I.list hq
  obtain⟨f0,f1,f2,f3,f4,f5⟩:=hf it (by simp)
  have hl:=rv.length
  exact wpAny_pyNext_list_end (I.ok.hd hc) st p.isList (by simp;omega) λh' eb=>⟨rfl,I.turned (t':=s.toks) (λb o hb e=>eb b o hb e) f0 f1 f3 f4 f5⟩
 self:=λ_ _ _ _ _ st h=>wpAny_pyIter_listiter st h
theorem An {tg:Expr}(it:Addr)(lo:Int)(n:Nat):Turn P w K tg (Itr lo n) [it] it (λi h=>IsRangeIter h it (lo+(i:Nat)*1) ((n:Int)-(i:Nat)) 1) where
 mem:=by simp
 obj:=λi h st b hb=>by
  have e:b=it:=by simpa using hb
  subst e
  exact⟨_,st,λv z=>by
   have z':Data.fields _=Data.cell v:=z
   cases z'⟩
 keep:=λi h h' st k=>k it (by simp) _ st
 item:=by
  intro X hP hw hK hc i pins s σ H E I hf st hg
  subst hP hw hK
  obtain⟨f0,f1,f2,f3,f4,f5⟩:=hf it (by simp)
  have W:=Walks.range (prog:=X.prog) (w:=X.w) (I.ok.hd hc) it lo 1 n
  refine W.item i s _ _ hg st λv h' tk hv st' kk=>?_
  obtain⟨t,rfl⟩:=hv
  have I1:Inv X pins σ H {s with heap:=h',toks:=tk} :=I.turned (λb o hb e=>kk b o (by simpa using hb) e) f0 f1 f3 f4 f5
  refine⟨_,rfl,zV (s:={s with heap:=h',toks:=tk}) (n:= "range_iterator") st' rfl rfl (by decide) ⟨.int (lo+i),H,I1,⟨t,?_⟩,⟨rfl,rfl⟩,st',λb hb=>(hf b hb).1⟩⟩
  rw[Int.mul_one]
 done:=by
  intro X hP hw hK hc i pins s σ H E I hf st hg
  subst hP hw hK
  obtain⟨f0,f1,f2,f3,f4,f5⟩:=hf it (by simp)
  exact wpAny_pyNext_range_end (I.ok.hd hc) st (by have:n<=i:=hg;omega) λh' eb=>⟨rfl,I.turned (t':=s.toks) (λb o hb e=>eb b o hb e) f0 f1 f3 f4 f5⟩
 self:=λ_ _ _ _ _ st h=>wpAny_pyIter_rangeiter st h
section
variable {X:Cx}{tg:Expr}
noncomputable def Jn (K:PySem.W.Frag)(tl:TE):TI:=λσ H R=>tl σ H λx H1=>∃ a,x = .ref a/\(∃ xs,SqL K H1 a xs)/\R (Itl K a) H1
theorem gg {l:Expr}{tl:TE}(hl:PE X l tl):PI X tg l (Jn X.K tl):=by
 intro pins s σ H R I h
 refine thn (hl pins s σ H _ I h) λv s1 ⟨x,H1,I1,r1,q1⟩=>?_
 obtain⟨a,e,⟨xs,hq⟩,q⟩:=q1
 subst e
 cases r1
 obtain⟨its,rv,p,hz⟩:=I1.list hq
 refine wpAny_pyIter_list p.isList ?_
 refine⟨s1.heap.objs.size,[s1.heap.objs.size],_,_,H1,rfl,I1.kept (t':=s1.toks) λb o e=>ak _ e,Cd a _,⟨_,aR _ rfl,rfl,rfl⟩,λb hb=>?_,q⟩
 have e:b=s1.heap.objs.size:=by simpa using hb
 subst e
 exact I1.EJ (ai _) (I1.hok.fresh (ai _))
theorem DN {R:It->Hp->Prop}{lo hi:Int}{t u v:Tok}{tk:Nat}(I:Inv X pins σ H s)(h1: -(2 ^ 62)<=lo)(h2:lo<2 ^ 62)(h3: -(2 ^ 62)<=hi)(h4:hi<2 ^ 62)
  (q:R (Itr lo (hi-lo).toNat) H):wpAny (model X.prog X.w) X.A (pyIter (.ref s.heap.objs.size)) (PIE X pins σ tg R) E {s with heap:=s.heap.push {cls:=.type "range",data:=.fields #[.int lo t,.int hi u,.int 1 v]},toks:=tk} :=by
 refine wpAny_pyIter_range (IsRange.new ..) (small_one h1 h2 h3 h4) ?_
 have I1:Inv X pins σ H {s with heap:=s.heap.push {cls:=.type "range",data:=.fields #[.int lo t,.int hi u,.int 1 v]},toks:=tk} :=I.kept λb o e=>ak _ e
 refine⟨(s.heap.push {cls:=.type "range",data:=.fields #[.int lo t,.int hi u,.int 1 v]}).objs.size,[(s.heap.push {cls:=.type "range",data:=.fields #[.int lo t,.int hi u,.int 1 v]}).objs.size],_,_,H,rfl,
  I1.kept (t':=tk) λb o e=>ak _ e,An _ lo (hi-lo).toNat,?_,λb hb=>?_,q⟩
 ·have e1:lo+((0:Nat):Int)*1=lo:=by simp
  have e2:(((hi-lo).toNat:Nat):Int)-((0:Nat):Int)=Builtin.Range.rangeSize lo hi 1:=by rw[rangeSize_one];split<;>omega
  show IsRangeIter _ _ (lo+((0:Nat):Int)*1) ((((hi-lo).toNat:Nat):Int)-((0:Nat):Int)) 1
  rw[e1,e2]
  exact aR _ rfl
 ·have e:b=(s.heap.push {cls:=.type "range",data:=.fields #[.int lo t,.int hi u,.int 1 v]}).objs.size:=by simpa using hb
  subst e
  exact I1.EJ (ai _) (I1.hok.fresh (ai _))
noncomputable def Jm (ta:TA):TI:=λσ H R=>ta σ H λvs H1=>∃ j:Int,vs = [.int j]/\ -(2 ^ 62)<=j/\j<2 ^ 62/\R (Itr 0 j.toNat) H1
theorem p6 {a:Expr}{ta:TA}{p:Pos}(hg:Gl X "range")(hm:X.mg "range" = none)(ha:PA X [a] ta)(hs:starEach [a] X.env = [(false,eval a X.env)]:=by rfl):PI X tg (.Call (.Name "range" p) [a] [] pos) (Jm ta):=by
 intro pins s σ H R I h
 refine Call_ (qC I hg hm boot_range (cR (thn (ha pos pins s σ H _ I h) λus s1 ⟨vs,H1,I1,r1,q1⟩=>?_) hs rfl))
 obtain⟨j,e,q1,q2,q⟩:=q1
 subst e
 cases r1 with
 |cons r rr=>
  cases rr
  obtain⟨t,rfl⟩:=r
  exact call_range_1 (DN I1 (by omega) (by omega) q1 q2 (by simpa using q))
noncomputable def J4 (wi:TI)(g:TG)(tb:TS):TS:=λD σ H=>wi σ H λJ H1=>∃ W:Nat->Nat->St->Hp->Prop,(∃ m,W 0 m σ H1)/\∀ i m σ H,W i m σ H->
 (J.stop i H/\D.nx σ H)\/(J.go i H/\∃ N:St->Hp->Prop,(∀ σ' H',N σ' H'->∃ m',m'<m/\W (i+1) m' σ' H')/\∀ x H',J.yld i H x H'->g x σ H' λσ2 H2=>tb {D with nx:=N,ct:=N,bk:=D.nx} σ2 H2)
noncomputable def qx (fp:List Addr)(h:Heap):List (Addr×Obj):=fp.filterMap λb=>(h.get? b).map λo=>(b,o)
theorem ju {fp:List Addr}{o:Obj}(hb:b∈fp)(e:h.get? b=some o):(b,o)∈qx fp h:=eG.mpr ⟨b,hb,by rw[e];rfl⟩
theorem Cy {fp:List Addr}{p:Addr×Obj}(hp:p∈qx fp h):p.1∈fp/\h.get? p.1=some p.2:=by
 obtain⟨b,hb,e⟩:=eG.mp hp
 cases q:h.get? b with
 |none=>rw[q]at e;cases e
 |some o=>
  rw[q]at e
  have e':(b,o)=p:=bx e
  subst e'
  exact⟨hb,q⟩
theorem Inv.pinned {fp:List Addr}(I:Inv X pins σ H s)(hf:∀ b∈fp,nC X pins H b)(ho:∀ b∈fp,∃ o,s.heap.get? b=some o/\∀ v,o.data≠ .cell v):Inv X (pins++qx fp s.heap) σ H s:=
 I.Bp λp hp=>(aJ.mp hp).elim (λz=>I.pin p (aL _ z)) λz=>by
  obtain⟨hb,e⟩:=Cy z
  obtain⟨f0,f1,f2,_⟩:=hf p.1 hb
  obtain⟨o,e',d⟩:=ho p.1 hb
  rw[e]at e';cases e'
  exact⟨e,f0,f1,f2,d⟩
theorem Inv.nE {pl:List (Addr×Obj)}(I:Inv X (pins++pl) σ H s):Inv X pins σ H s:=I.Bp λp hp=>I.pin p (aL _ (bL _ hp))
theorem jq {iter:Expr}{body:List Stmt}{wi:TI}{g:TG}{tb:TS}{pos:Pos}(hp:PassesOwn (model X.prog X.w) X.A X.env X.xe)(hc:X.calm=true)(hi:PI X tg iter wi)(hg:PG X tg g)(hb:PSs X body tb)
  (hs:∀ x,foldedSetIterable iter X.env x=pure x:=by intro _;rfl):PS X (.For tg iter body [] pos) (J4 wi g tb):=by
 intro pins s σ H D I h
 refine wpAny_For (thn (hi pins s σ H _ I h) λv s1 h1=>thn h1 λitv s2 h2=>?_) hs
 obtain⟨it,fp,tn,J,H2,e,I2,T,st2,f2,W,⟨m0,w0⟩,turn⟩:=h2
 subst e
 have GY:∀ {H':Hp},(∀ b∈fp,H' b=none)->∀ b∈fp,nC X pins H' b:=λhn b hb=>⟨hn b hb,(f2 b hb).2⟩
 refine codeAny_forLoop_any (λn s'=>∃ i σ' H',Inv X pins σ' H' s'/\tn i s'.heap/\(∀ b∈fp,H' b=none)/\W i n σ' H') ?_ m0 ⟨0,σ,H2,I2,st2,λb hb=>(f2 b hb).1,w0⟩
 rintro n s3 ⟨i,σ3,H3,I3,st3,fr3,w3⟩
 rcases turn i n σ3 H3 w3 with⟨stop,qn⟩|⟨go,N,hN,step⟩
 ·refine eJ hp (thn (T.done X rfl rfl rfl hc i pins s3 σ3 H3 X.xe I3 (GY fr3) st3 stop) λr s4 ⟨hr,I4⟩=>?_)
  subst hr
  exact wpAny_execs_nil ⟨σ3,H3,I4,qn⟩
 ·refine eJ hp (thn (T.item X rfl rfl rfl hc i pins s3 σ3 H3 X.xe I3 (GY fr3) st3 go) λr s4 ⟨u,hr,h4⟩=>?_)
  subst hr
  refine eJ hp (thn h4 λ_ s5 ⟨x,H5,I5,r5,y5,st5,fr5⟩=>?_)
  have I5':=I5.pinned (GY fr5) (T.obj _ _ st5)
  refine eJ hp (thn (hg _ s5 σ3 H5 x u _ I5' r5 (step x H5 y5)) λ_ s6 ⟨σ6,H6,I6,q6⟩=>?_)
  refine eJ hp (thn (hb _ s6 σ6 H6 _ I6 q6) λf s7 q7=>?_)
  have again:∀ {σ7:St}{H7:Hp},Inv X (pins++qx fp s5.heap) σ7 H7 s7->N σ7 H7->∃ m,m<n/\∃ i σ' H',Inv X pins σ' H' s7/\tn i s7.heap/\(∀ b∈fp,H' b=none)/\W i m σ' H':=λ{σ7 H7} I7 n7=>by
   obtain⟨m',hm,w7⟩:=hN σ7 H7 n7
   refine⟨m',hm,i+1,σ7,H7,I7.nE,T.keep _ _ _ st5 λb hb o e=>(I7.pin (b,o) (aL _ (aL _ (ju hb e)))).1,λb hb=>?_,w7⟩
   obtain⟨o,e,d⟩:=T.obj _ _ st5 b hb
   exact(I7.pin (b,o) (aL _ (aL _ (ju hb e)))).2.1
  cases f with
  |next=>obtain⟨σ7,H7,I7,n7⟩:=q7;exact again I7 n7
  |cont=>obtain⟨σ7,H7,I7,n7⟩:=q7;exact again I7 n7
  |brk=>obtain⟨σ7,H7,I7,q7⟩:=q7;exact⟨σ7,H7,I7.nE,q7⟩
  |ret v=>obtain⟨x7,σ7,H7,I7,r7,q7⟩:=q7;exact⟨x7,σ7,H7,I7.nE,r7,q7⟩
end
theorem pI {xs:List V}{g:TG}{tb:TS}{D:Ends}(Pv:Nat->St->Hp->Prop)(h0:Pv 0 σ H)(hl:∀ i σ H,i<=xs.length->Pv i σ H->SqL K H a xs)
  (hs:∀ i x σ H,xs[i]? = some x->Pv i σ H->g x σ H λσ2 H2=>tb {D with nx:=Pv (i+1),ct:=Pv (i+1),bk:=D.nx} σ2 H2) (hd:∀ σ H,Pv xs.length σ H->D.nx σ H):
  ∃ W:Nat->Nat->St->Hp->Prop,(∃ m,W 0 m σ H)/\∀ i m σ H,W i m σ H->
   ((Itl K a).stop i H/\D.nx σ H)\/((Itl K a).go i H/\∃ N:St->Hp->Prop,(∀ σ' H',N σ' H'->∃ m',m'<m/\W (i+1) m' σ' H')/\∀ x H',(Itl K a).yld i H x H'->g x σ H' λσ2 H2=>tb {D with nx:=N,ct:=N,bk:=D.nx} σ2 H2):=by
 refine⟨λi m σ H=>m=xs.length-i/\i<=xs.length/\Pv i σ H,⟨xs.length,by simp,aP _,h0⟩,?_⟩
 rintro i m σ H ⟨rfl,hi,p⟩
 have q:=hl i σ H hi p
 by_cases hlt:i<xs.length
 ·refine .inr ⟨⟨xs,xs[i],q,by simp[hlt]⟩,Pv (i+1),λσ' H' p'=>⟨xs.length-(i+1),by omega,rfl,hlt,p'⟩,λx H' y=>?_⟩
  obtain⟨e,y⟩:=y
  subst e
  exact hs i x σ _ (y xs q) p
 ·have e:i=xs.length:=by omega
  subst e
  exact .inl ⟨⟨xs,q,ai _⟩,hd σ H p⟩
theorem sv {lo:Int}{n:Nat}{g:TG}{tb:TS}{D:Ends}(Pv:Nat->St->Hp->Prop)(h0:Pv 0 σ H)
  (hs:∀ i σ H,i<n->Pv i σ H->g (.int (lo+i)) σ H λσ2 H2=>tb {D with nx:=Pv (i+1),ct:=Pv (i+1),bk:=D.nx} σ2 H2) (hd:∀ σ H,Pv n σ H->D.nx σ H):
  ∃ W:Nat->Nat->St->Hp->Prop,(∃ m,W 0 m σ H)/\∀ i m σ H,W i m σ H->
   ((Itr lo n).stop i H/\D.nx σ H)\/((Itr lo n).go i H/\∃ N:St->Hp->Prop,(∀ σ' H',N σ' H'->∃ m',m'<m/\W (i+1) m' σ' H')/\∀ x H',(Itr lo n).yld i H x H'->g x σ H' λσ2 H2=>tb {D with nx:=N,ct:=N,bk:=D.nx} σ2 H2):=by
 refine⟨λi m σ H=>m=n-i/\i<=n/\Pv i σ H,⟨n,by simp,aP _,h0⟩,?_⟩
 rintro i m σ H ⟨rfl,hi,p⟩
 by_cases hlt:i<n
 ·refine .inr ⟨hlt,Pv (i+1),λσ' H' p'=>⟨n-(i+1),by omega,rfl,hlt,p'⟩,λx H' y=>?_⟩
  obtain⟨e,y⟩:=y
  subst e y
  exact hs i σ _ hlt p
 ·have e:i=n:=by omega
  subst e
  exact .inl ⟨ai _,hd σ H p⟩
noncomputable abbrev R2:=V->V->Hp->VK->Prop
noncomputable def OpR (X:Cx)(f:Value->Value->Sem Value)(r:R2):Prop:=
 ∀ (pins:List (Addr×Obj)) (s:Shared) (σ:St) (H:Hp) (x y:V) (v u:Value) (Q:VK),Inv X pins σ H s->RelV x v->RelV y u->r x y H Q->
  wpAny (model X.prog X.w) X.A (f v u) (EP X pins σ Q) X.xe s
noncomputable def UnR (X:Cx)(f:Value->Sem Value)(r:V->Hp->VK->Prop):Prop:=
 ∀ (pins:List (Addr×Obj)) (s:Shared) (σ:St) (H:Hp) (x:V) (v:Value) (Q:VK),Inv X pins σ H s->RelV x v->r x H Q->
  wpAny (model X.prog X.w) X.A (f v) (EP X pins σ Q) X.xe s
noncomputable def jN (X:Cx)(f:Value)(r:List V->Hp->VK->Prop):Prop:=
 ∀ (pins:List (Addr×Obj)) (s:Shared) (σ:St) (H:Hp) (xs:List V) (us:List Value) (Q:VK),Inv X pins σ H s->Vals xs us->r xs H Q->
  wpAny (model X.prog X.w) X.A (call f us) (EP X pins σ Q) X.xe s
noncomputable def Sb (X:Cx)(r:V->Hp->(Bool->Hp->Prop)->Prop):Prop:=
 ∀ (pins:List (Addr×Obj)) (s:Shared) (σ:St) (H:Hp) (x:V) (v:Value) (Q:Bool->Hp->Prop),Inv X pins σ H s->RelV x v->r x H Q->
  wpAny (model X.prog X.w) X.A (truthy v) (TP X pins σ Q) X.xe s
noncomputable def tOp (r:R2)(ta tb:TE):TE:=λσ H Q=>ta σ H λx H1=>tb σ H1 λy H2=>r x y H2 Q
noncomputable def tUn (r:V->Hp->VK->Prop)(ta:TE):TE:=λσ H Q=>ta σ H λx H1=>r x H1 Q
noncomputable def rI (C:Int->Int->Prop)(g:Int->Int->V):R2:=λx y H Q=>∃ i j,x = .int i/\y = .int j/\C i j/\Q (g i j) H
noncomputable def rI0 (g:Int->Int->V):R2:=λx y H Q=>∃ i j,x = .int i/\y = .int j/\Q (g i j) H
noncomputable def rU (g:Int->V):V->Hp->VK->Prop:=λx H Q=>∃ i,x = .int i/\Q (g i) H
section
variable {X:Cx}{a b c:Expr}{ta tb tc:TE}{pos:Pos}
theorem HY (ha:PE X a ta)(hb:PE X b tb){R:V->V->Hp->Prop}(I:Inv X pins σ H s)
  (h:ta σ H λx H1=>tb σ H1 λy H2=>R x y H2) {Q:Value->Shared->Prop}{f:Value->Value->Sem Value}
  (hf:∀ v u s2 x y H2,Inv X pins σ H2 s2->RelV x v->RelV y u->R x y H2->wpAny (model X.prog X.w) X.A (f v u) Q X.xe s2):
  wpAny (model X.prog X.w) X.A (eval a X.env) (λv s₁=>wpAny (model X.prog X.w) X.A (eval b X.env) (λu s₂=>wpAny (model X.prog X.w) X.A (f v u) Q X.xe s₂) X.xe s₁) X.xe s:=by
 refine thn (ha pins s σ H _ I h) λv s1 ⟨x,H1,I1,r1,q1⟩=>?_
 refine thn (hb pins s1 σ H1 _ I1 q1) λu s2 ⟨y,H2,I2,r2,q2⟩=>?_
 exact hf v u s2 x y H2 I2 r1 r2 q2
theorem fo {op:Operator}{r:R2}(ho:OpR X (binaryOp op) r)(ha:PE X a ta)(hb:PE X b tb):PE X (.BinOp a op b pos) (tOp r ta tb):=by
 intro pins s σ H Q I h
 exact wpAny_BinOp (HY ha hb I h λv u s2 x y H2 I2 rx ry q=>ho pins s2 σ H2 x y v u Q I2 rx ry q)
theorem qZ {op:UnaryOp}{r:V->Hp->VK->Prop}(ho:UnR X (unaryOp op) r)(ha:PE X a ta):PE X (.UnaryOp op a pos) (tUn r ta):=by
 intro pins s σ H Q I h
 exact UnaryOp_ (thn (ha pins s σ H _ I h) λv s1 ⟨x,H1,I1,r1,q1⟩=>ho pins s1 σ H1 x v Q I1 r1 q1)
theorem opI {f:Value->Value->Sem Value}{C:Int->Int->Prop}{g:Int->Int->Int}
  (rule:∀ (i j:Int) (t u:Tok) (s:Shared) (Q:Value->Shared->Prop) (E:Value->Shared->Prop),C i j->Q (.int (g i j) s.toks) {s with toks:=s.toks+1} ->wpAny (model X.prog X.w) X.A (f (.int i t) (.int j u)) Q E s):
  OpR X f (rI C λi j=>.int (g i j)):=by
 intro pins s σ H x y v u Q I rx ry h
 obtain⟨i,j,rfl,rfl,hc,q⟩:=h
 obtain⟨t,rfl⟩:=rx
 obtain⟨t',rfl⟩:=ry
 exact rule i j t t' s _ _ hc ⟨.int (g i j),H,I.tok _,⟨_,rfl⟩,q⟩
theorem Hi {f:Value->Value->Sem Value}{g:Int->Int->Int}
  (rule:∀ (i j:Int) (t u:Tok) (s:Shared) (Q:Value->Shared->Prop) (E:Value->Shared->Prop),Q (.int (g i j) s.toks) {s with toks:=s.toks+1} ->wpAny (model X.prog X.w) X.A (f (.int i t) (.int j u)) Q E s):
  OpR X f (rI0 λi j=>.int (g i j)):=by
 intro pins s σ H x y v u Q I rx ry h
 obtain⟨i,j,rfl,rfl,q⟩:=h
 obtain⟨t,rfl⟩:=rx
 obtain⟨t',rfl⟩:=ry
 exact rule i j t t' s _ _ ⟨.int (g i j),H,I.tok _,⟨_,rfl⟩,q⟩
theorem IY {f:Value->Value->Sem Value}{g:Int->Int->Bool}
  (rule:∀ (i j:Int) (t u:Tok) (s:Shared) (Q:Value->Shared->Prop) (E:Value->Shared->Prop),Q (.bool (g i j)) s->wpAny (model X.prog X.w) X.A (f (.int i t) (.int j u)) Q E s):
  OpR X f (rI0 λi j=>.bl (g i j)):=by
 intro pins s σ H x y v u Q I rx ry h
 obtain⟨i,j,rfl,rfl,q⟩:=h
 obtain⟨t,rfl⟩:=rx
 obtain⟨t',rfl⟩:=ry
 exact rule i j t t' s _ _ ⟨.bl (g i j),H,I,rfl,q⟩
noncomputable def Se (i j:Int):Prop:=0<j/\j<1073741824
noncomputable def Sd (i j:Int):Prop:=0<=j/\j<=1000000/\i.natAbs<2 ^ 64
noncomputable def Ii (i j:Int):Prop:=(-(2 ^ 64)<i/\i<2 ^ 64)\/(-(2 ^ 64)<j/\j<2 ^ 64)
theorem Ii.ok {i j:Int}(h:Ii i j):IntMulOk i j:=by
 rcases h with⟨h1,h2⟩|⟨h1,h2⟩
 ·exact .of_left (intBits_le_64 h1 h2)
 ·exact .of_right (intBits_le_64 h1 h2)
theorem jd:OpR X (binaryOp .Add) (rI0 λi j=>.int (i+j)):=Hi λ_ _ _ _ _ _ _ q=>add_int q
theorem xU:OpR X (binaryOp .Sub) (rI0 λi j=>.int (i-j)):=Hi λ_ _ _ _ _ _ _ q=>sub_int q
theorem jt:OpR X (binaryOp .Mult) (rI Ii λi j=>.int (i*j)):=opI λ_ _ _ _ _ _ _ hc q=>mul_int q hc.ok
theorem gH:OpR X (binaryOp .FloorDiv) (rI Se λi j=>.int (i/j)):=opI λi j _ _ _ _ _ hc q=>by
 have h1:(0:Int)<j:=hc.1
 have h2:j<1073741824:=hc.2
 exact floordiv_int (by omega) (by rw[Int.fdiv_eq_ediv_of_nonneg i (by omega)];exact q) (.inl (PyProof.noPylong_small (by omega)))
theorem gM:OpR X (binaryOp .Mod) (rI (λ_ j=>0<j) λi j=>.int (i%j)):=opI λi j _ _ _ _ _ hc q=>by
 have h1:(0:Int)<j:=hc
 exact mod_int' (by omega) (by rw[Int.fmod_eq_emod_of_nonneg i (by omega)];exact q)
theorem AD:OpR X (binaryOp .Pow) (rI Sd λi j=>.int (i ^ j.toNat)):=opI λ_ _ _ _ _ _ _ hc q=>pow_int_small hc.1 hc.2.1 hc.2.2 q
theorem Hf:OpR X (binaryOp .BitXor) (rI0 λi j=>.int (Builtin.bitXor i j)):=Hi λ_ _ _ _ _ _ _ q=>xor_int q
theorem unI {f:Value->Sem Value}{g:Int->Int}
  (rule:∀ (i:Int) (t:Tok) (s:Shared) (Q:Value->Shared->Prop) (E:Value->Shared->Prop),Q (.int (g i) s.toks) {s with toks:=s.toks+1} ->wpAny (model X.prog X.w) X.A (f (.int i t)) Q E s):
  UnR X f (rU λi=>.int (g i)):=by
 intro pins s σ H x v Q I rx h
 obtain⟨i,rfl,q⟩:=h
 obtain⟨t,rfl⟩:=rx
 exact rule i t s _ _ ⟨.int (g i),H,I.tok _,⟨_,rfl⟩,q⟩
theorem nV:UnR X (unaryOp .USub) (rU λi=>.int (-i)):=unI λ_ _ _ _ _ q=>neg_int q
end
noncomputable def II:V->V->Bool
 |.non,.non=>true |.non,.int _=>true |.int _,.non=>true |.non,.bl _=>true |.bl _,.non=>true |.non,.str _=>true |.str _,.non=>true
 |.int _,.int _=>true |.bl _,.bl _=>true |.str _,.str _=>true |.byt _,.byt _=>true
 |.int _,.str _=>true |.str _,.int _=>true |.bl _,.str _=>true |.str _,.bl _=>true
 |_,_=>false
noncomputable def rEq:R2:=λx y H Q=>II x y=true/\Q (.bl (decide (x=y))) H
noncomputable def rNe:R2:=λx y H Q=>II x y=true/\Q (.bl (!decide (x=y))) H
theorem BQ {i j:Int} :decide (V.int i=V.int j)=(i==j):=by
 rw[cn]
 simp
theorem ER {i j:Bool} :decide (V.bl i=V.bl j)=(i==j):=by
 rw[cn]
 simp
theorem BP {i j:Str} :decide (V.str i=V.str j)=(i==j):=by
 rw[cn]
 simp
theorem BR {i j:Array UInt8} :decide (V.byt i=V.byt j)=(i.toList==j.toList):=by
 rw[cn]
 cases i
 cases j
 simp
section
variable {X:Cx}{a b c:Expr}{ta tb tc:TE}{pos:Pos}
theorem gJ {Q:VK}{k k':Bool}(I:Inv X pins σ H s)(q:Q (.bl k) H)(e:k=k'):EP X pins σ Q (.bool k') s:=by
 subst e
 exact⟨.bl k,H,I,rfl,q⟩
theorem tD:OpR X (compareOp .Eq) rEq:=by
 intro pins s σ H x y v u Q I rx ry h
 obtain⟨hs,q⟩:=h
 cases x with
 |non=>
  cases rx
  cases y with
  |non=>cases ry;exact PySem.EqNone.eq_none_none (gJ I q (by simp))
  |bl j=>cases ry;exact PySem.EqNone.eq_none_bool (gJ I q (by simp))
  |int j=>obtain⟨t',rfl⟩:=ry;exact PySem.EqNone.eq_none_int (gJ I q (by simp))
  |str j=>obtain⟨t',rfl⟩:=ry;exact PySem.EqNone.eq_none_str (gJ I q (by simp))
  |_=>exact absurd (show false=true from hs) aC
 |bl i=>
  cases rx
  cases y with
  |non=>cases ry;exact PySem.EqNone.eq_bool_none (gJ I q (by simp))
  |bl j=>cases ry;exact eq_bool (gJ I q ER)
  |str j=>obtain⟨t',rfl⟩:=ry;exact PySem.EqMixed.eq_bool_str (gJ I q (by simp))
  |_=>exact absurd (show false=true from hs) aC
 |int i=>
  obtain⟨t,rfl⟩:=rx
  cases y with
  |non=>cases ry;exact PySem.EqNone.eq_int_none (gJ I q (by simp))
  |int j=>obtain⟨t',rfl⟩:=ry;exact eq_int (gJ I q BQ)
  |str j=>obtain⟨t',rfl⟩:=ry;exact PySem.EqMixed.eq_int_str (gJ I q (by simp))
  |_=>exact absurd (show false=true from hs) aC
 |str i=>
  obtain⟨t,rfl⟩:=rx
  cases y with
  |non=>cases ry;exact PySem.EqNone.eq_str_none (gJ I q (by simp))
  |bl j=>cases ry;exact PySem.EqMixed.eq_str_bool (gJ I q (by simp))
  |int j=>obtain⟨t',rfl⟩:=ry;exact PySem.EqMixed.eq_str_int (gJ I q (by simp))
  |str j=>obtain⟨t',rfl⟩:=ry;exact eq_str (gJ I q BP)
  |_=>exact absurd (show false=true from hs) aC
 |byt i=>
  obtain⟨t,rfl⟩:=rx
  cases y with
  |byt j=>obtain⟨t',rfl⟩:=ry;exact PySem.W.eq_bytes (gJ I q BR)
  |_=>exact absurd (show false=true from hs) aC
 |_=>cases y<;>exact absurd (show false=true from hs) aC
theorem zi:OpR X (compareOp .NotEq) rNe:=by
 intro pins s σ H x y v u Q I rx ry h
 obtain⟨hs,q⟩:=h
 cases x with
 |non=>
  cases rx
  cases y with
  |non=>cases ry;exact PySem.EqNone.ne_none_none (gJ I q (by simp))
  |bl j=>cases ry;exact PySem.EqNone.ne_none_bool (gJ I q (by simp))
  |int j=>obtain⟨t',rfl⟩:=ry;exact PySem.EqNone.ne_none_int (gJ I q (by simp))
  |str j=>obtain⟨t',rfl⟩:=ry;exact PySem.EqNone.ne_none_str (gJ I q (by simp))
  |_=>exact absurd (show false=true from hs) aC
 |bl i=>
  cases rx
  cases y with
  |non=>cases ry;exact PySem.EqNone.ne_bool_none (gJ I q (by simp))
  |bl j=>cases ry;exact ne_bool (gJ I q (cg not ER))
  |str j=>obtain⟨t',rfl⟩:=ry;exact PySem.EqMixed.ne_bool_str (gJ I q (by simp))
  |_=>exact absurd (show false=true from hs) aC
 |int i=>
  obtain⟨t,rfl⟩:=rx
  cases y with
  |non=>cases ry;exact PySem.EqNone.ne_int_none (gJ I q (by simp))
  |int j=>obtain⟨t',rfl⟩:=ry;exact ne_int (gJ I q (cg not BQ))
  |str j=>obtain⟨t',rfl⟩:=ry;exact PySem.EqMixed.ne_int_str (gJ I q (by simp))
  |_=>exact absurd (show false=true from hs) aC
 |str i=>
  obtain⟨t,rfl⟩:=rx
  cases y with
  |non=>cases ry;exact PySem.EqNone.ne_str_none (gJ I q (by simp))
  |bl j=>cases ry;exact PySem.EqMixed.ne_str_bool (gJ I q (by simp))
  |int j=>obtain⟨t',rfl⟩:=ry;exact PySem.EqMixed.ne_str_int (gJ I q (by simp))
  |str j=>obtain⟨t',rfl⟩:=ry;exact ne_str (gJ I q (cg not BP))
  |_=>exact absurd (show false=true from hs) aC
 |byt i=>
  obtain⟨t,rfl⟩:=rx
  cases y with
  |byt j=>obtain⟨t',rfl⟩:=ry;exact PySem.W.ne_bytes (gJ I q (cg not BR))
  |_=>exact absurd (show false=true from hs) aC
 |_=>cases y<;>exact absurd (show false=true from hs) aC
theorem Gq:OpR X (compareOp .Lt) (rI0 λi j=>.bl (decide (i<j))):=IY λ_ _ _ _ _ _ _ q=>lt_int q
theorem Gr:OpR X (compareOp .LtE) (rI0 λi j=>.bl (decide (i<=j))):=IY λ_ _ _ _ _ _ _ q=>le_int q
theorem Cr:OpR X (compareOp .In) (λx y H Q=>∃ i j,x = .str i/\y = .str j/\Q (.bl (!(Builtin.Str.occurrences j i 0 j.length 1).isEmpty)) H):=by
 intro pins s σ H x y v u Q I rx ry h
 obtain⟨i,j,rfl,rfl,q⟩:=h
 obtain⟨t,rfl⟩:=rx
 obtain⟨t',rfl⟩:=ry
 exact in_str (gJ I q rfl)
theorem iS (b:Expr)(h:op≠ .In:=by decide)(h2:op≠ .NotIn:=by decide):behindInMarks op b=false:=by
 have e1:(op==CmpOp.In)=false:=by cases op<;>first |rfl |exact absurd rfl h
 have e2:(op==CmpOp.NotIn)=false:=by cases op<;>first |rfl |exact absurd rfl h2
 cases b<;>simp[behindInMarks,e1,e2]
theorem t9 {r:R2}(ho:OpR X (compareOp op) r)(ha:PE X a ta)(hb:PE X b tb)(hm:behindInMarks op b=false):PE X (.Compare a [op] [b] pos) (tOp r ta tb):=by
 intro pins s σ H Q I h
 exact wpAny_Compare1 (HY ha hb I h λv u s2 x y H2 I2 rx ry q=>ho pins s2 σ H2 x y v u Q I2 rx ry q) hm
noncomputable def Iy (t:TE):TT:=λσ H Q=>t σ H λx H'=>∃ k,x = .bl k/\Q k H'
theorem gG {r:R2}(ho:OpR X (compareOp op) r)(ha:PE X a ta)(hb:PE X b tb)(hm:behindInMarks op b=false):PT X (.Compare a [op] [b] pos) (Iy (tOp r ta tb)):=by
 intro pins s σ H Q I h
 refine wpAny_isTrue_Compare1 (thn (ha pins s σ H _ I h) λv s1 ⟨x,H1,I1,r1,q1⟩=>thn (hb pins s1 σ H1 _ I1 q1) λu s2 ⟨y,H2,I2,r2,q2⟩=>
  thn (ho pins s2 σ H2 x y v u _ I2 r1 r2 q2) λc s3 ⟨z,H3,I3,r3,k,e,q3⟩=>?_) hm
 subst e
 cases r3
 exact cJ ⟨H3,I3,q3⟩
noncomputable def GV (r r':R2)(ta tb tc:TE):TE:=λσ H Q=>ta σ H λx H1=>tb σ H1 λy H2=>r x y H2 λz H3=>∃ k,z = .bl k/\
 (if k=true then tc σ H3 λw' H4=>r' y w' H4 Q else Q (.bl false) H3)
theorem ze {op':CmpOp}{r r':R2}(ho:OpR X (compareOp op) r)(ho':OpR X (compareOp op') r')(ha:PE X a ta)(hb:PE X b tb)(hc:PE X c tc)
  (hm:lastMarks [op,op'] [b,c]=false:=by with_unfolding_all rfl):PE X (.Compare a [op,op'] [b,c] pos) (GV r r' ta tb tc):=by
 intro pins s σ H Q I h
 refine Compare_chain (thn (ha pins s σ H _ I h) λv s1 ⟨x,H1,I1,r1,q1⟩=>chain_link (thn (hb pins s1 σ H1 _ I1 q1) λu s2 ⟨y,H2,I2,r2,q2⟩=>
  thn (ho pins s2 σ H2 x y v u _ I2 r1 r2 q2) λd s3 ⟨z,H3,I3,r3,k,e,q3⟩=>?_)) hm
 subst e
 cases r3
 refine cJ ?_
 cases k with
 |false=>exact ite_ff ⟨.bl false,H3,I3,rfl,q3⟩
 |true=>exact ite_tt (chain_last (thn (hc pins s3 σ H3 _ I3 q3) λw' s4 ⟨z',H4,I4,r4,q4⟩=>ho' pins s4 σ H4 y z' u w' Q I4 r2 r4 q4))
noncomputable def JN (K:PySem.W.Frag)(x:V)(H:Hp)(k:Bool):Prop:=
 match x with
 |.non=>k=false
 |.bl b=>k=b
 |.int i=>k=(i !=0)
 |.str y=>y.length<=sizeLine/\k=((y.length:Int) !=0)
 |.byt y=>y.size<=sizeLine/\k=((y.size:Int) !=0)
 |.ref p=>(∃ xs,SqL K H p xs/\k = !xs.isEmpty)\/(∃ xs,SqT K H p xs/\k = !xs.isEmpty)\/∃ kvs,H p=some (.dK kvs)/\k = !kvs.isEmpty
 |_=>False
theorem AV {κ:Type}{kvs:List (κ×V)}{vs:List (κ×Value)}(r:KV kvs vs):(!vs.isEmpty) = !kvs.isEmpty:=by
 cases r<;>rfl
theorem vj {xs:List V}{its:List Value}(r:Vals xs its):(!its.toArray.isEmpty) = !xs.isEmpty:=by
 cases r<;>simp
theorem qB:(sizeLine:Nat)<2 ^ 63:=by rw[aM];decide
theorem GP:Sb X (λx H Q=>∃ k,JN X.K x H k/\Q k H):=by
 intro pins s σ H x v Q I rx h
 obtain⟨k,e,q⟩:=h
 have hl:=qB
 have hs:sizeLine=16777216:=aM
 cases x with
 |non=>
  cases rx
  have e':k=false:=e
  subst e'
  exact truthy_none ⟨H,I,q⟩
 |bl b=>
  cases rx
  have e':k=b:=e
  subst e'
  exact cJ ⟨H,I,q⟩
 |int i=>
  obtain⟨t,rfl⟩:=rx
  have e':k=(i !=0):=e
  subst e'
  exact PySem.P.truthy_int ⟨H,I,q⟩
 |str y=>
  obtain⟨t,rfl⟩:=rx
  obtain⟨hy,e'⟩:y.length<=sizeLine/\k=((y.length:Int) !=0):=e
  subst e'
  exact PySem.P.truthy_str (by omega) ⟨H,I.tok _,q⟩
 |byt y=>
  obtain⟨t,rfl⟩:=rx
  obtain⟨hy,e'⟩:y.size<=sizeLine/\k=((y.size:Int) !=0):=e
  subst e'
  exact PySem.W.truthy_bytes (by omega) ⟨H,I.tok _,q⟩
 |ref p=>
  cases rx
  have e':(∃ xs,SqL X.K H p xs/\k = !xs.isEmpty)\/(∃ xs,SqT X.K H p xs/\k = !xs.isEmpty)\/∃ kvs,H p=some (.dK kvs)/\k = !kvs.isEmpty:=e
  rcases e' with⟨xs,hx,e'⟩|⟨xs,hx,e'⟩|⟨kvs,hx,e'⟩
  ·subst e'
   obtain⟨its,r,pl,hz⟩:=I.list hx
   have hlen:=r.length
   exact wpAny_truthy_list pl.isList (by simp only[aE];omega) ⟨H,I.tok _,by rw[vj r];exact q⟩
  ·subst e'
   obtain⟨its,r,pl,hz⟩:=I.tuple hx
   have hlen:=r.length
   exact truthy_tuple pl (by simp only[aE];omega) ⟨H,I.tok _,by rw[vj r];exact q⟩
  ·subst e'
   obtain⟨hz,hS,vs,r,m⟩:kvs.length<=sizeLine/\(p==sysModules)=false/\∃ vs,KV kvs vs/\s.heap.DictOf (iu X.prog X.w) p vs:=I.hok p _ hx
   have hlen:kvs.length=vs.length:=Paired.length r
   exact wpAny_truthy_dict hS m (by omega) ⟨H,I.tok _,by rw[AV r];exact q⟩
 |_=>exact(show False from e).elim
theorem pA (ha:PE X a ta)(he:∀ whole,isTrue a X.env whole=(do let v <-whole;standAt a.pos;holding [v] (truthy v))):
  PT X a (λσ H Q=>ta σ H λx H'=>∃ k,JN X.K x H' k/\Q k H'):=by
 intro pins s σ H Q I h
 exact isTrue_plain (thn (ha pins s σ H _ I h) λv s1 ⟨x,H1,I1,r1,q1⟩=>GP pins s1 σ H1 x v Q I1 r1 q1) (he _)
theorem gO:OpR X (binaryOp .Add) (λx y H Q=>∃ i j,x = .str i/\y = .str j/\i.length+j.length<=sizeLine/\Q (.str (i++j)) H):=by
 intro pins s σ H x y v u Q I rx ry h
 obtain⟨i,j,rfl,rfl,hz,q⟩:=h
 obtain⟨t,rfl⟩:=rx
 obtain⟨t',rfl⟩:=ry
 exact add_str (λt' tk=>⟨.str (i++j),H,I.tok _,⟨_,rfl⟩,q⟩) hz
theorem vals1 {x:V}(r:Vals [x] us):∃ u,us = [u]/\RelV x u:=by
 cases r with
 |cons r1 r2=>cases r2;exact⟨_,rfl,r1⟩
theorem vals2 {x y:V}(r:Vals [x,y] us):∃ u w',us = [u,w']/\RelV x u/\RelV y w':=by
 cases r with
 |cons r1 r2=>
  cases r2 with
  |cons r3 r4=>cases r4;exact⟨_,_,rfl,r1,r3⟩
theorem Df (hc:X.calm=true):jN X (.builtin "max") (λxs H Q=>∃ i j,xs = [.int i,.int j]/\Q (.int (if j>i then j else i)) H):=by
 intro pins s σ H xs us Q I r h
 obtain⟨i,j,rfl,q⟩:=h
 obtain⟨u,w',rfl,⟨t,rfl⟩,⟨t',rfl⟩⟩:=vals2 r
 refine max_two_ints (I.ok.hd hc) λh' tk k=>⟨_,H,I.kept k,?_,q⟩
 by_cases hj:j>i
 ·rw[aA hj,aA hj];exact⟨_,rfl⟩
 ·rw[au hj,au hj];exact⟨_,rfl⟩
theorem Dc (hc:X.calm=true):jN X (.builtin "min") (λxs H Q=>∃ i j,xs = [.int i,.int j]/\Q (.int (if j<i then j else i)) H):=by
 intro pins s σ H xs us Q I r h
 obtain⟨i,j,rfl,q⟩:=h
 obtain⟨u,w',rfl,⟨t,rfl⟩,⟨t',rfl⟩⟩:=vals2 r
 refine min_two_ints (I.ok.hd hc) λh' tk k=>⟨_,H,I.kept k,?_,q⟩
 by_cases hj:j<i
 ·rw[aA hj,aA hj];exact⟨_,rfl⟩
 ·rw[au hj,au hj];exact⟨_,rfl⟩
theorem sH:jN X (.type "int") (λxs H Q=>(∃ i,xs = [.int i]/\Q (.int i) H)\/∃ k,xs = [.bl k]/\Q (.int (if k then 1 else 0)) H):=by
 intro pins s σ H xs us Q I r h
 rcases h with⟨i,rfl,q⟩|⟨k,rfl,q⟩
 ·obtain⟨u,rfl,t,rfl⟩:=vals1 r
  exact call_int_int ⟨.int i,H,I,⟨_,rfl⟩,q⟩
 ·obtain⟨u,rfl,r1⟩:=vals1 r
  cases r1
  exact call_int_bool ⟨.int (if k then 1 else 0),H,I.tok _,⟨_,rfl⟩,q⟩
theorem rB:jN X (.type "str") (λxs H Q=>∃ i,xs = [.int i]/\i.natAbs.log2<1920/\Q (.str (toString i)) H):=by
 intro pins s σ H xs us Q I r h
 obtain⟨i,rfl,hz,q⟩:=h
 obtain⟨u,rfl,t,rfl⟩:=vals1 r
 exact PySem.P.str_of_int hz ⟨.str _,H,I.tok _,⟨_,rfl⟩,q⟩
end
structure A7 (h:Heap)(x dx C:Addr)(mA:Str->Option Value):Prop where
 obj:h.get? x=some (PySem.W.instObj C dx)
 ns:h.Ns1 dx mA
 ne:dx≠x
theorem CC {dx:Addr}{mA:Str->Option Value}(n:h.Ns1 dx mA):∃ od,h.get? dx=some od/\∀ name,PySem.W.lookIn name od=some (mA name):=by
 obtain⟨o,es,ep,ho,hd,hk,_,hm⟩:=n
 refine⟨o,ho,λname=>?_⟩
 have e:=hm name
 unfold nsFind findBy at e
 rw[<-Array.find?_toList]at e
 unfold PySem.W.lookIn
 rw[hd]
 dsimp only
 split
 ·rename_i y q
  rw[q]at e
  exact cg some e
 ·rename_i q
  rw[q]at e
  have a:es.toList.any (·.refKey)=false:=by
   rw[List.any_eq_false]
   intro y hy
   obtain⟨z,t,OO⟩:=hk y (eu.mp hy)
   simp[DictEntry.refKey,OO]
  have a':¬es.toList.any (·.refKey)=true:=by rw[a];exact aC
  rw[au a']
  exact cg some e
theorem A7.look {x dx C:Addr}{mA:Str->Option Value}(I:A7 h x dx C mA):∃ od,PySem.W.InstAt h x (PySem.W.instObj C dx) C (some od)/\∀ name,PySem.W.lookIn name od=some (mA name):=
 let ⟨od,ho,hl⟩:=CC I.ns
 ⟨od,⟨I.obj,rfl,rfl,ho⟩,hl⟩
variable {kw:List (Str×Value)}
section
variable {prog:Program}{w:World}{A:Around}{E:Value->Shared->Prop}{s:Shared}{K:PySem.W.Frag}{x dx C f:Addr}{mA:Str->Option Value}{name:Str}{v:Value}
theorem get_map {expr:Bool}(X:K.In s.heap)(I:A7 s.heap x dx C mA)(hg:PySem.W.plainGet K C name=true)(hh:PySem.W.hasDictIn K C=true)
  (ha:PySem.W.findIn K (.ref C) name=some none) (hv:mA name=some v) (hv':PySem.W.handedIn v=true) (h:Q v {s with toks:=s.toks+1}):
  wpAny (model prog w) A (getAttr (.ref x) name expr) Q E s:=by
 obtain⟨od,J,hl⟩:=I.look
 exact PySem.W.get_value X J (PySem.W.plainGet_of hg).1 (PySem.W.findObj_own hh ha rfl (by rw[hl,hv])) hv' h
theorem EH {pl:Sem Bool}{Q:Value×List Value->Shared->Prop}(X:K.In s.heap)(I:A7 s.heap x dx C mA)(hg:PySem.W.plainGet K C name=true)
  (hf:PySem.W.findIn K (.ref C) name=some (some (.ref f))) (ht:PySem.W.isFn K (.ref f)=true) (hv:mA name=none) (h:Q (.ref f,[.ref x]) s):
  wpAny (model prog w) A (getMethod (.ref x) name pl) Q E s:=by
 obtain⟨od,J,hl⟩:=I.look
 exact PySem.W.method_fn X J (PySem.W.plainGet_of hg).1 (PySem.W.plainGet_of hg).2 hf (cO.mp ht) (by show(PySem.W.lookIn name od).map (·.isSome)=some false;rw[hl,hv];rfl) h
theorem Fo {ns:List Str}{Q:Unit->Shared->Prop}(X:K.In s.heap)(I:A7 s.heap x dx C mA)
  (hs:PySem.W.findIn K (.ref C) "__setattr__" = some (some (.builtin "object.__setattr__"))) (hp:PySem.W.plainOver K C=true) (ht:PySem.W.takerIn K C name=some none) (hh:PySem.W.hasDictIn K C=true)
  (hw:PySem.Within mA ns) (hsz:ns.length<=sizeLine)
  (h:∀ h',A7 h' x dx C (λy=>if y=name then some v else mA y)->Heap.SameBut dx s.heap h'->Q () {s with heap:=h',toks:=s.toks+2}):
  wpAny (model prog w) A (setAttr (.ref x) name v) Q E s:=by
 obtain⟨od,J,hl⟩:=I.look
 refine PySem.W.set_plain X J hs (PySem.W.osa_open (s:={s with toks:=s.toks+1}) (r:=none) X J hp ht λb=>?_)
 obtain⟨cd,hc,hd'⟩:=PySem.W.any_some hh
 have hx:s.heap.get? x=some ⟨.ref C,some dx,.plain,#[]⟩:=I.obj
 refine ae (aj (ae (ae (wpAny_loadPart hx (ae (PySem.W.Looks.here (s:={s with toks:=s.toks+1}) (PySem.W.looks_clsIn X hc) ?_))))))
 rw[hd']
 refine aj (a:=some dx) (ae (aj (ae ?_)))
 refine wpAny_nsSet1 (s:={s with toks:=s.toks+1}) I.ns λh' hn2 hs2=>?_
 obtain⟨oD,esD,epD,hoD,hdD,hcD⟩:=hn2.count (PySem.Within.cons name v hw)
 refine ae (wpAny_lookBehind hoD (by rw[hdD];exact pastItsLine_dict (bq hcD (by rw[aQ];omega))) ?_)
 exact aj (h _ ⟨(hs2.2 _ (bX I.ne)).trans I.obj,hn2,I.ne⟩ hs2)
theorem Em {R:Result->Shared->Prop}{vs:List Value}(X:K.In s.heap)(hm:PySem.W.makesIn K C=true)
  (hi:PySem.W.findIn K (.ref C) "__init__" = some (some (.ref f))) (hf:PySem.W.typeIn K (.ref f)=some (.type "function"))
  (h:codeAny (model prog w) (A.under (.builtin "type.__call__" ⟨.ref C::vs,kw⟩)) (.call (.ref f) ⟨.ref (s.heap.objs.size+1)::vs,kw⟩) (PySem.W.InitBack (s.heap.objs.size+1) R)
   {s with heap:=(s.heap.push PySem.W.emptyDict).push (PySem.W.instObj C s.heap.objs.size)}):
  codeAny (model prog w) A (.call (.ref C) ⟨vs,kw⟩) R s:=by
 obtain⟨hh,g,d,t,os⟩:=s
 exact PySem.W.make_core (PySem.W.makes_of X hm) (PySem.W.looks_findIn X hi) (λself=>PySem.W.bind_fn X self hf) (.inl rfl) h
end
noncomputable def lG (f:Str)(v:V):List (Str×V)->List (Str×V)
 |[]=>[(f,v)]
 |(g,x)::r=>if g=f then(g,v)::r else(g,x)::lG f v r
theorem tE (f g:Str)(v:V):∀ fs:List (Str×V),(lG f v fs).lookup g=if g=f then some v else fs.lookup g
 |[]=>by
  show List.lookup g [(f,v)]=_
  by_cases h:g=f
  ·have hb:(g==f)=true:=cO.mpr h
   simp only[List.lookup,hb,aA h]
  ·have hb:(g==f)=false:=eA.mpr h
   simp only[List.lookup,hb,au h]
 |(k,x)::r=>by
  have ih:=tE f g v r
  rw[show lG f v ((k,x)::r)=(if k=f then(k,v)::r else(k,x)::lG f v r) from rfl]
  by_cases hk:k=f
  ·rw[aA hk]
   by_cases h:g=k
   ·have hb:(g==k)=true:=cO.mpr h
    simp only[List.lookup,hb,aA (h.trans hk)]
   ·have hb:(g==k)=false:=eA.mpr h
    simp only[List.lookup,hb,au (λe:g=f=>h (e.trans hk.symm))]
  ·rw[au hk]
   by_cases h:g=k
   ·have hb:(g==k)=true:=cO.mpr h
    simp only[List.lookup,hb,au (λe:g=f=>hk (h.symm.trans e))]
   ·have hb:(g==k)=false:=eA.mpr h
    simp only[List.lookup,hb]
    exact ih
theorem sj (f:Str)(v:V):∀ fs:List (Str×V),f∈(lG f v fs).map (·.1)/\∀ g,g∈fs.map (·.1)->g∈(lG f v fs).map (·.1)
 |[]=>⟨by simp[lG],λg h=>by simp at h⟩
 |(k,x)::r=>by
  obtain⟨i1,i2⟩:=sj f v r
  rw[show lG f v ((k,x)::r)=(if k=f then(k,v)::r else(k,x)::lG f v r) from rfl]
  by_cases hk:k=f
  ·rw[aA hk]
   subst hk
   exact⟨by simp,λg h=>by simpa using h⟩
  ·rw[au hk]
   refine⟨?_,λg h=>?_⟩
   ·rw[bt]
    exact ar _ i1
   ·rw[bt]at h ⊢
    rcases aI.mp h with e |e
    ·exact aI.mpr (.inl e)
    ·exact ar _ (i2 g e)
theorem tF (f:Str)(v:V):∀ fs:List (Str×V),(lG f v fs).length<=fs.length+1
 |[]=>by simp[lG]
 |(k,x)::r=>by
  have ih:=tF f v r
  rw[show lG f v ((k,x)::r)=(if k=f then(k,v)::r else(k,x)::lG f v r) from rfl]
  by_cases hk:k=f
  ·rw[aA hk,aQ,aQ];omega
  ·rw[au hk,aQ,aQ];omega
theorem wA.some_of {v:V}{o:Option Value}(r:wA (some v) o):∃ u,o=some u/\RelV v u:=by
 cases o with
 |none=>exact(show False from r).elim
 |some u=>exact⟨u,rfl,r⟩
theorem wA.none_of {o:Option Value}(r:wA none o):o=none:=by
 cases o with
 |none=>rfl
 |some u=>exact(show False from r).elim
theorem CN {v:V}(r:RelV v u):PySem.W.handedIn u=true:=by
 cases v with
 |non=>cases(show u=Value.none from r);rfl
 |bl b=>cases(show u=Value.bool b from r);rfl
 |int i=>obtain⟨t,e⟩:=(show ∃ t,u=Value.int i t from r);cases e;rfl
 |str x=>obtain⟨t,e⟩:=(show ∃ t,u=Value.str x t from r);cases e;rfl
 |byt b=>obtain⟨t,e⟩:=(show ∃ t,u=Value.bytes b t from r);cases e;rfl
 |flt b=>obtain⟨t,e⟩:=(show ∃ t,u=Value.float b t from r);cases e;rfl
 |ref a=>cases(show u=Value.ref a from r);rfl
 |ty n=>cases(show u=Value.type n from r);rfl
section
variable {P:Program}{w:World}{H H':Hp}{h h':Heap}{a C dx:Addr}{fs fs':List (Str×V)}
theorem ue (hok:HOk P w H h)(e:H a=some (.ins C dx fs)):∃ mA,A7 h a dx C mA/\(∀ f,wA (fs.lookup f) (mA f))/\PySem.Within mA (fs.map (·.1))/\fs.length<=1000/\H dx=some (.own a):=by
 obtain⟨d,z,ne,ob,mA,n,r,q⟩:=(show iZ P w H h a (.ins C dx fs) from hok a _ e)
 exact⟨mA,⟨ob,n,ne⟩,r,q,z,d⟩
end
structure Cls (K:PySem.W.Frag)(C:Addr):Prop where
 pg:PySem.W.plainGet K C Str.empty=true
 hd:PySem.W.hasDictIn K C=true
 po:PySem.W.plainOver K C=true
 sa:PySem.W.findIn K (.ref C) "__setattr__" = some (some (.builtin "object.__setattr__"))
theorem Cls.get {C:Addr}(c:Cls K C)(f:Str):PySem.W.plainGet K C f=true:=c.pg
noncomputable def pS (K:PySem.W.Frag)(C:Addr)(f:Str):Prop:=PySem.W.findIn K (.ref C) f=some none
theorem pS.Iv {C:Addr}{f:Str}(n:pS K C f):PySem.W.takerIn K C f=some none:=by
 unfold PySem.W.takerIn
 rw[show PySem.W.findIn K (.ref C) f=some none from n]
 rfl
structure Meth (K:PySem.W.Frag)(C:Addr)(m:Str)(f:Addr):Prop where
 at_:PySem.W.findIn K (.ref C) m=some (some (.ref f))
 fn:PySem.W.isFn K (.ref f)=true
 kp:PySem.W.keepIn K (.ref f)=true
section
variable {X:Cx}{pins:List (Addr×Obj)}{σ:St}{H:Hp}{s:Shared}{a C dx:Addr}{fs:List (Str×V)}{f:Str}{v:V}{A:Around}{E:Value->Shared->Prop}
theorem A1 {b:Bool}(I:Inv X pins σ H s)(e:H a=some (.ins C dx fs))(c:Cls X.K C)(n:pS X.K C f)(l:fs.lookup f=some v)
  (h:∀ u s',Inv X pins σ H s'->RelV v u->Q u s'):wpAny (model X.prog X.w) A (getAttr (.ref a) f b) Q E s:=by
 obtain⟨mA,O,r,_,_,_⟩:=ue I.hok e
 obtain⟨u,hu,ru⟩:=wA.some_of (v:=v) (o:=mA f) (by rw[<-l];exact r f)
 exact get_map I.kIn O (c.get f) c.hd n hu (CN ru) (h u _ (I.tok _) ru)
theorem A0 {m:Str}{g:Addr}{pl:Sem Bool}{Q:Value×List Value->Shared->Prop}(I:Inv X pins σ H s)(e:H a=some (.ins C dx fs))(c:Cls X.K C)(k:Meth X.K C m g)(l:fs.lookup m=none)
  (h:Q (.ref g,[.ref a]) s):wpAny (model X.prog X.w) A (getMethod (.ref a) m pl) Q E s:=by
 obtain⟨mA,O,r,_,_,_⟩:=ue I.hok e
 have hn:mA m=none:=wA.none_of (by rw[<-l];exact r m)
 exact EH I.kIn O (c.get m) k.at_ k.fn hn h
theorem Ax {y:V}{Q:Unit->Shared->Prop}(I:Inv X pins σ H s)(e:H a=some (.ins C dx fs))(c:Cls X.K C)(n:pS X.K C f)(hl:fs.length<1000)(ry:RelV y u)
  (h:∀ s',Inv X pins σ (upd H a (.ins C dx (lG f y fs))) s'->Q () s'):wpAny (model X.prog X.w) A (setAttr (.ref a) f u) Q E s:=by
 obtain⟨mA,O,r,wi,_,ho⟩:=ue I.hok e
 have hz:(fs.map (·.1)).length<=sizeLine:=by rw[aa,aM];omega
 refine Fo I.kIn O c.sa c.po n.Iv c.hd wi hz λh' O' sb=>h _ ?_
 have hd:∃ o,h'.get? dx=some o:=let ⟨o,_,_,e',_⟩:=O'.ns;⟨o,e'⟩
 refine I.write (x:=a) (e:=dx) (by rw[e];exact True.intro) (.inr ho) (λb q hb z=>(sb.2 b hb).trans z) hd ?_
 refine⟨by rw[fE O.ne];exact ho,?_,O.ne,O'.obj,_,O'.ns,λg=>?_,λg hg=>?_⟩
 ·have:=tF f y fs;omega
 ·show wA ((lG f y fs).lookup g) (if g=f then some u else mA g)
  rw[tE]
  by_cases q:g=f
  ·rw[aA q,aA q];exact ry
  ·rw[au q,au q];exact r g
 ·by_cases q:g=f
  ·rw[q];exact(sj f y fs).1
  ·refine(sj f y fs).2 g (wi g λz=>hg ?_)
   show(if g=f then some u else mA g)=none
   rw[au q];exact z
theorem Inv.made (I:Inv X pins σ H s):Inv X pins σ (upd (upd H s.heap.objs.size (.own (s.heap.objs.size+1))) (s.heap.objs.size+1) (.ins C s.heap.objs.size []))
  {s with heap:=(s.heap.push PySem.W.emptyDict).push (PySem.W.instObj C s.heap.objs.size)} :=by
 have e1:(s.heap.push PySem.W.emptyDict).get? s.heap.objs.size=some PySem.W.emptyDict:=aR s.heap rfl
 have e2:((s.heap.push PySem.W.emptyDict).push (PySem.W.instObj C s.heap.objs.size)).get? (s.heap.objs.size+1)=some (PySem.W.instObj C s.heap.objs.size):=by
  have:=aR (s.heap.push PySem.W.emptyDict) (o:=PySem.W.instObj C s.heap.objs.size) rfl
  rwa [Heap.size_push]at this
 have e3:(s.heap.push PySem.W.emptyDict).Ns s.heap.objs.size (λ_=>none):=⟨PySem.W.emptyDict,#[],_,e1,rfl,(λe he=>absurd he (by simp)),λ_=>rfl⟩
 have I1:=I.laid (a:=s.heap.objs.size) (o:=.own (s.heap.objs.size+1)) (h':=s.heap.push PySem.W.emptyDict) (t':=s.toks) (λb u q=>ak _ q) (ai _) ⟨_,e1⟩
 refine I1.laid (a:=s.heap.objs.size+1) (o:=.ins C s.heap.objs.size []) (t':=s.toks) (λb u q=>ak _ q) (Nat.le_of_eq (Heap.size_push _ _)) ?_
 have ne:s.heap.objs.size≠s.heap.objs.size+1:=aK (Nat.lt_succ_self _)
 refine⟨by rw[fE ne,eZ],aP _,ne,e2,λ_=>none,(Heap.Ns1.of_empty e3).at λo q=>ak _ q,λ_=>True.intro,λy hy=>absurd rfl hy⟩
theorem F8 {prog:Program}{env:Env}{f:Str}(hb:attributeBase e f env (eval e env)=eval e env)
  (h:wpAny (model prog w) A (eval e env) (λo s₁=>wpAny (model prog w) A (getAttr o f true) Q E s₁) E s):wpAny (model prog w) A (eval (.Attribute e f pos) env) Q E s:=
 Attribute_any_ h (by rw[arm_eval_Attribute,hb])
end
noncomputable def J5 (K:PySem.W.Frag)(ta:TE)(f:Str):TE:=λσ H Q=>ta σ H λx H1=>∃ a C dx fs v,x = .ref a/\H1 a=some (.ins C dx fs)/\Cls K C/\pS K C f/\fs.lookup f=some v/\Q v H1
noncomputable def KY (K:PySem.W.Frag)(ta tv:TE)(f:Str):TS:=λD σ H=>tv σ H λy H1=>ta σ H1 λx H2=>∃ a C dx fs,x = .ref a/\H2 a=some (.ins C dx fs)/\Cls K C/\pS K C f/\fs.length<1000/\
 D.nx σ (upd H2 a (.ins C dx (lG f y fs)))
section
variable {X:Cx}{o e value:Expr}{f:Str}{pos pos' Ir:Pos}{ta tv:TE}
theorem xR (he:PE X e ta)(hb:attributeBase e f X.env (eval e X.env)=eval e X.env):PE X (.Attribute e f pos) (J5 X.K ta f):=by
 intro pins s σ H Q I h
 refine F8 hb (thn (he pins s σ H _ I h) λu s1 ⟨x,H1,I1,rx,a,C,dx,fs,v,ex,ea,c,n,l,q⟩=>?_)
 subst ex
 obtain rfl:u=Value.ref a:=rx
 exact A1 I1 ea c n l λu' s2 I2 ru=>⟨v,H1,I2,ru,q⟩
theorem rV (ha:PE X o ta)(hv:PE X value tv)(hs:swapsWith value (some (.Attribute o f pos')) pos.line X.env=pure false):PS X (.Assign [.Attribute o f pos'] value pos) (KY X.K ta tv f):=by
 intro pins s σ H D I h
 refine plainObj_wpAny_Assign_Attribute (thn (hv pins s σ H _ I h) λu s1 ⟨y,H1,I1,ry,q⟩=>thn (ha pins s1 σ H1 _ I1 q) λov s2 ⟨x,H2,I2,rx,a,C,dx,fs,ex,ea,c,n,l,q2⟩=>?_) hs
 subst ex
 obtain rfl:ov=Value.ref a:=rx
 exact Ax I2 ea c n l ry λs3 I3=>⟨σ,_,I3,q2⟩
end
section
variable {X:Cx}{pins:List (Addr×Obj)}{σ:St}{H:Hp}{s:Shared}{A:Around}{E:Value->Shared->Prop}{Q:Value->Shared->Prop}{c:Value}{b:Bool}
inductive sN (K:PySem.W.Frag) (H:Hp):V->Value->Prop where
 |non:sN K H .non (.type "NoneType")
 |bl (x:Bool):sN K H (.bl x) (.type "bool")
 |int (i:Int):sN K H (.int i) (.type "int")
 |str (x:Str):sN K H (.str x) (.type "str")
 |flt (x:UInt64):sN K H (.flt x) (.type "float")
 |lst {a:Addr}{xs:List V} (e:H a=some (.lst xs)):sN K H (.ref a) (.type "list")
 |frz {a:Addr}{o:Obj}{xs:List V} (e:H a=some (.frz o (.lst xs))):sN K H (.ref a) (.type "list")
 |tup {a:Addr}{xs:List V} (e:H a=some (.tup xs)):sN K H (.ref a) (.type "tuple")
 |dK {a:Addr}{kvs:List (Key×V)} (e:H a=some (.dK kvs)):sN K H (.ref a) (.type "dict")
 |dT {a:Addr}{kvs:List (List Key×V)} (e:H a=some (.dT kvs)):sN K H (.ref a) (.type "dict")
 |ins {a C dx:Addr}{fs:List (Str×V)} (e:H a=some (.ins C dx fs)) (cl:Cls K C) (ha:PySem.W.findIn K (.ref C) "__class__" = some (some (.builtin "object.__class__")))
   (hn:PySem.W.specialIn K (.builtin "object.__class__") "__get__" = some (some (.builtin "getset_descriptor.__get__"))) (htk:PySem.W.takesIn K (.builtin "object.__class__")=some true)
   (hm:PySem.W.mroIn K C (.type "object")=some true):sN K H (.ref a) (.ref C)
theorem CI {x:V}{t:Value}(I:Inv X pins σ H s)(rx:RelV x u)(ty:sN X.K H x t)(e:PySem.W.kitOne X.K t c=some b)(h:∀ tk,Q (.bool b) {s with toks:=tk}):
  wpAny (model X.prog X.w) A (call (.builtin "isinstance") [u,c]) Q E s:=by
 cases ty with
 |non=>cases(show u=Value.none from rx);exact bU PySem.W.kitx_none I.kIn True.intro e (λz=>nomatch z) h
 |bl y=>cases(show u=Value.bool y from rx);exact bU PySem.W.kitx_bool I.kIn True.intro e (λz=>nomatch z) h
 |int i=>obtain⟨t,q⟩:=(show ∃ t,u=Value.int i t from rx);cases q;exact bU PySem.W.kitx_int I.kIn True.intro e (λz=>nomatch z) h
 |str y=>obtain⟨t,q⟩:=(show ∃ t,u=Value.str y t from rx);cases q;exact bU PySem.W.kitx_str I.kIn True.intro e (λz=>nomatch z) h
 |flt y=>obtain⟨t,q⟩:=(show ∃ t,u=Value.float y t from rx);cases q;exact bU PySem.W.kitx_float I.kIn True.intro e (λz=>nomatch z) h
 |@lst a xs ea=>
  cases(show u=Value.ref a from rx)
  obtain⟨_,_,n,_,h1⟩:=(show iZ X.prog X.w H s.heap a (.lst xs) from I.hok a _ ea)
  exact bU PySem.W.kitx_list I.kIn ⟨_,h1,rfl⟩ e (λz=>nomatch z) h
 |@frz a ob xs ea=>
  cases(show u=Value.ref a from rx)
  obtain⟨_,_,_,n,_,h1⟩:=(show iZ X.prog X.w H s.heap a (.frz ob (.lst xs)) from I.hok a _ ea)
  exact bU PySem.W.kitx_list I.kIn ⟨_,h1,rfl⟩ e (λz=>nomatch z) h
 |@tup a xs ea=>
  cases(show u=Value.ref a from rx)
  obtain⟨_,_,_,p⟩:=(show iZ X.prog X.w H s.heap a (.tup xs) from I.hok a _ ea)
  obtain⟨o,h1,h2,_⟩:=p
  exact bU PySem.W.kitx_tuple I.kIn ⟨o,h1,h2⟩ e (λz=>nomatch z) h
 |@dK a kvs ea=>
  cases(show u=Value.ref a from rx)
  obtain⟨_,_,vs,_,p⟩:=(show iZ X.prog X.w H s.heap a (.dK kvs) from I.hok a _ ea)
  obtain⟨o,es,ep,h1,h2,_⟩:=p
  exact bU PySem.W.kitx_dict I.kIn ⟨o,h1,h2.1⟩ e (λz=>nomatch z) h
 |@dT a kvs ea=>
  cases(show u=Value.ref a from rx)
  obtain⟨_,_,xs,_,o,es,ep,h1,h2,_⟩:=(show iZ X.prog X.w H s.heap a (.dT kvs) from I.hok a _ ea)
  exact bU PySem.W.kitx_dict I.kIn ⟨o,h1,h2.1⟩ e (λz=>nomatch z) h
 |@ins a C dx fs ea cl ha hn htk hm=>
  cases(show u=Value.ref a from rx)
  obtain⟨mA,O,_⟩:=ue I.hok ea
  obtain⟨od,J,_⟩:=O.look
  exact bU (PySem.W.kitx_own (cl.get _) cl.hd ha hn htk hm) I.kIn J e (λz=>nomatch z) h
end
structure lE (k:Nat)(A:Around):Prop where
 hd:A.handled=none
 dp:A.depth+3*k+5<recursionLimit
 un:A.units+16*k+200<cLine
variable {k:Nat}
theorem lE.mono {j:Nat}(r:lE k A)(h:j<=k):lE j A:=⟨r.hd,by have:=r.dp;omega,by have:=r.un;omega⟩
theorem lE.deeper (r:lE (k+1) A)(env:Env):lE k (A.deeper env):=
 ⟨r.hd,by have:=r.dp;show A.depth+1+3*k+5<_;omega,by have:=r.un;show A.units+3+16*k+200<_;omega⟩
theorem AO {C:Addr} :(A.under (.builtin "type.__call__" ⟨.ref C::us,kw⟩)).depth=A.depth+1:=by
 first |rfl |simp[Around.under,Code.weight,Code.isCreation,Code.isGuard,Code.isCaller,Code.frames,Code.isFrame,guardIds]
theorem AN {C:Addr} :(A.under (.builtin "type.__call__" ⟨.ref C::us,kw⟩)).units=A.units+1:=by
 first |rfl |simp[Around.under,Code.cUnits,Code.frames,Code.isFrame]
theorem lE.make (r:lE (k+1) A)(C:Addr)(us:List Value)(kw:List (Str×Value)):lE k (A.under (.builtin "type.__call__" ⟨.ref C::us,kw⟩)):=
 ⟨r.hd,by have:=r.dp;rw[AO];omega,by have:=r.un;rw[AN];omega⟩
theorem lE.depth (r:lE k A):A.depth<recursionLimit:=by have:=r.dp;omega
theorem lE.units (r:lE k A):A.units+64<cLine:=by have:=r.un;omega
noncomputable def GS:TA:=λ_ H Q=>Q [] H
noncomputable def IF (ta:TE)(tr:TA):TA:=λσ H Q=>ta σ H λx H1=>tr σ H1 λxs H2=>Q (x::xs) H2
section
variable {X:Cx}{e:Expr}{es:List Expr}{te:TE}{t:TA}{pos:Pos}
theorem eX:PA X [] GS:=λ_ _ _ _ H Q I h=>Calls.spliced_nil ⟨[],H,I,.nil,h⟩
theorem eW (ha:PE X e te)(hr:PA X es t)(hs:starEach (e::es) X.env=(false,eval e X.env)::starEach es X.env:=by rfl):PA X (e::es) (IF te t):=by
 intro pos pins s σ H Q I h
 rw[hs]
 show wpAny _ _ (spliced ((false,eval e X.env)::backTo pos (starEach es X.env))) _ _ s
 refine Calls.spliced_cons (thn (ha pins s σ H _ I h) λu s1 ⟨x,H1,I1,r1,q1⟩=>?_)
 exact thn (hr pos pins s1 σ H1 _ I1 q1) λus s2 ⟨xs,H2,I2,r2,q2⟩=>⟨x::xs,H2,I2,.cons r1 r2,q2⟩
noncomputable def JT (t:TA):TE:=λσ H Q=>t σ H λxs H1=>xs.length<=sizeLine/\∀ p,H1 p=none->Q (.ref p) (upd H1 p (.tup xs))
noncomputable def JY (t:TA):TE:=λσ H Q=>t σ H λxs H1=>xs.length<=sizeLine/\∀ p,H1 p=none->Q (.ref p) (upd H1 p (.lst xs))
theorem iE {x1}(h:PA X es t):PE X (.Tuple es x1 pos) (JT t):=by
 intro pins s σ H Q I hq
 refine wpAny_Tuple_spliced (thn (h pos pins s σ H _ I hq) λus s1 ⟨xs,H1,I1,r,z,q⟩=>⟨by rw[<-r.length];exact z,?_⟩)
 have hf:H1 s1.heap.objs.size=none:=I1.hok.fresh (ai _)
 refine⟨.ref s1.heap.objs.size,upd H1 s1.heap.objs.size (.tup xs),I1.laid (t':=s1.toks) (λb u e=>ak _ e) (ai _) ?_,rfl,q _ hf⟩
 exact⟨z,us,r,⟨_,aR _ rfl,rfl,_,rfl⟩⟩
theorem gB (h:PA X es t):PE X (.List es pos) (JY t):=by
 intro pins s σ H Q I hq
 refine wpAny_List_spliced (thn (h pos pins s σ H _ I hq) λus s1 ⟨xs,H1,I1,r,z,q⟩=>⟨by rw[<-r.length];exact z,?_⟩)
 have hf:H1 s1.heap.objs.size=none:=I1.hok.fresh (ai _)
 refine⟨.ref s1.heap.objs.size,upd H1 s1.heap.objs.size (.lst xs),I1.laid (t':=s1.toks) (λb u e=>ak _ e) (ai _) ?_,rfl,q _ hf⟩
 exact⟨z,us,0,r,aR _ rfl⟩
end
noncomputable abbrev Sp:=List V->Hp->VK->XK->Prop
noncomputable abbrev CXT:=List Env->Hp->Shared->XK->Value->Shared->Prop
structure Ba (P:Program)(w:World)(K:PySem.W.Frag)(mg:Str->Option Value)(base:Heap)(A:Around)(outer:List Env)(s:Shared)(H:Hp):Prop where
 frames:A.frames=some outer
 mod:Mod K mg base
 bs:∀ b o,base.get? b=some o->s.heap.get? b=some o/\H b=none
 bsz:base.objs.size<=s.heap.objs.size
 rm:s.heap.FunFrames base outer
 frf:∀ b∈frs outer,H b=none
 hok:HOk P w H s.heap
 bare:AllBare s.gens
noncomputable def CE (outer:List Env)(P:Program)(w:World)(H:Hp)(s:Shared)(Q:VK)(u:Value)(s':Shared):Prop:=
 ∃ v H',s'.os=s.os/\AllBare s'.gens/\Un (frs outer) [] H H' s.heap s'.heap/\HOk P w H' s'.heap/\RelV v u/\Q v H'
noncomputable def CR (CX:CXT)(outer:List Env)(P:Program)(w:World)(H:Hp)(s:Shared)(Q:VK)(E:XK)(r:Result)(s':Shared):Prop:=
 match r with
 |.ok (.ret u)=>CE outer P w H s Q u s'
 |.ok _=>False
 |.error e=>CX outer H s E e s'
structure fm (P:Program)(w:World)(K:PySem.W.Frag)(mg:Str->Option Value)(base:Heap)(CX:CXT)(k:Nat)(f:Addr)(fd:FuncData)(ps:List Str)(sp:Sp):Prop where
 len:∀ vs H Q E,sp vs H Q E->vs.length=ps.length
 run:∀ (A:Around) (outer:List Env) (s:Shared) (H:Hp) (args:Args) (us:List Value) (vs:List V) (Q:VK) (E:XK),lE k A->Ba P w K mg base A outer s H->BindsTo s fd args (ps.zip us)->Vals vs us->sp vs H Q E->
  codeAny (model P w) A (.call (.ref f) args) (CR CX outer P w H s Q E) s
variable {mg:Str->Option Value}{base:Heap}
theorem fm.mono {CX:CXT}{j:Nat}{f:Addr}{fd:FuncData}{ps:List Str}{sp:Sp}(F:fm P w K mg base CX j f fd ps sp)(h:j<=k):
  fm P w K mg base CX k f fd ps sp:=⟨F.len,λA outer s H args us vs Q E hr=>F.run A outer s H args us vs Q E (hr.mono h)⟩
theorem Ba.make {outer:List Env}(e:Ba P w K mg base A outer s H)(C:Addr)(us:List Value)(kw:List (Str×Value)):
  Ba P w K mg base (A.under (.builtin "type.__call__" ⟨.ref C::us,kw⟩)) outer s H:=⟨by first |exact e.frames |(simpa [Around.under,Code.envs,Code.isFrame,pushEnvs]using e.frames),e.mod,e.bs,e.bsz,e.rm,e.frf,e.hok,e.bare⟩
section
variable {X:Cx}{pins:List (Addr×Obj)}{σ:St}{H:Hp}{s s':Shared}
theorem Inv.HU (I:Inv X pins σ H s):Ba X.prog X.w X.K X.mg X.base X.A X.stack s H:=
 ⟨I.ok.frames,I.ok.mod,I.bs,bq I.ok.bsz I.sz,I.stack,I.xu,I.hok,I.bare⟩
theorem Inv.after {Q:VK}(I:Inv X pins σ H s)(h:CE X.stack X.prog X.w H s Q u s'):EP X pins σ Q u s':=by
 obtain⟨v,H',os,bare,un,hok,r,q⟩:=h
 obtain⟨hh,g,d,t,os'⟩:=s'
 obtain rfl:os'=s.os:=os
 exact⟨v,H',I.call (h':=hh) (g':=g) (d':=d) (t':=t) (ch:=[]) un hok bare (λb z=>absurd z (by simp)),r,q⟩
end
noncomputable def IG (sp:Sp)(dvs:List V)(E:XK)(t:TA):TE:=λσ H Q=>t σ H λvs H1=>sp (vs++dvs) H1 Q E
noncomputable def IC (C:Addr)(sp:Sp)(dvs:List V)(E:XK)(t:TA):TE:=λσ H Q=>t σ H λvs H1=>∀ x dx,H1 x=none->H1 dx=none->dx≠x->
 sp (.ref x::(vs++dvs)) (upd (upd H1 dx (.own x)) x (.ins C dx [])) (λv H2=>v = .non/\Q (.ref x) H2) E
noncomputable def Binds (K:PySem.W.Frag)(fd:FuncData)(ps:List Str)(ds:List Value):Prop:=
 ∀ (s:Shared) (us:List Value),K.In s.heap->(us++ds).length=ps.length->BindsTo s fd ⟨us,[]⟩ (ps.zip (us++ds))
theorem Binds.all {fd:FuncData}{ps:List Str}(h:∀ us:List Value,us.length=ps.length->bindArgs fd ⟨us,[]⟩=pure (ps.zip us)):Binds K fd ps []:=λs us _ hl=>by
 rw[bN]at hl ⊢
 exact .of_eq (h us hl)
noncomputable def Passes (CX:CXT)(X:Cx)(E:XK):Prop:=∀ (pins:List (Addr×Obj)) (σ:St) (H:Hp) (s:Shared) (e:Value) (s':Shared),Inv X pins σ H s->CX X.stack H s E e s'->X.xe e s'
section
variable {X:Cx}{CX:CXT}{k:Nat}{f C:Addr}{fd:FuncData}{ps:List Str}{sp:Sp}{dvs:List V}{ds:List Value}{E:XK}{x m:Str}{p pos apos:Pos}{e o:Expr}{es:List Expr}{ta:TE}{t:TA}
theorem DI {Q:VK}{vs:List V}(F:fm X.prog X.w X.K X.mg X.base CX k f fd ps sp)(hr:lE k X.A)(hb:Binds X.K fd ps ds)(hd:Vals dvs ds)(hx:Passes CX X E)
  (I:Inv X pins σ H s) (r:Vals vs us) (h:sp (vs++dvs) H Q E):wpAny (model X.prog X.w) X.A (call (.ref f) us) (EP X pins σ Q) X.xe s:=by
 have r2:Vals (vs++dvs) (us++ds):=r.append hd
 have hl:(us++ds).length=ps.length:=by rw[<-r2.length];exact F.len _ _ _ _ h
 refine wpAny_call (eP (F.run X.A X.stack s H ⟨us,[]⟩ (us++ds) (vs++dvs) Q E hr I.HU (hb s us I.kIn hl) r2 h) λr s' hq=>?_)
 cases r with
 |error e=>exact hx pins σ H s e s' I hq
 |ok fl=>
  cases fl with
  |ret u=>exact I.after hq
  |next=>exact False.elim hq
  |brk=>exact False.elim hq
  |cont=>exact False.elim hq
theorem fj (F:fm X.prog X.w X.K X.mg X.base CX k f fd ps sp)(hr:lE k X.A)(hg:Gl X x)(hm:X.mg x=some (.ref f))(hk:PySem.W.keepIn X.K (.ref f)=true)(hb:Binds X.K fd ps ds)(hd:Vals dvs ds)(hx:Passes CX X E)
  (ha:PA X (e::es) t) (hdb:(x==("__debug__" :Str))=false:=by decide) (he:starEach (e::es) X.env=(false,eval e X.env)::starEach es X.env:=by rfl) (hpl:(backTo pos (starEach es X.env)).any (·.1)=false:=by rfl):
  PE X (.Call (.Name x p) (e::es) [] pos) (IG sp dvs E t):=by
 intro pins s σ H Q I h
 refine cT (p9 I hg hm ?_ hdb)
 refine PySem.W.callWith_K (h₀:=X.base) I.ok.mod.kin hk (thn (ha pos pins s σ H _ I h) λus s1 ⟨vs,H1,I1,r,q⟩=>⟨I1.kIn,?_⟩) he hpl
 exact DI F hr hb hd hx I1 r q
structure Mk (K:PySem.W.Frag)(C f:Addr):Prop where
 makes:PySem.W.makesIn K C=true
 init:PySem.W.findIn K (.ref C) "__init__" = some (some (.ref f))
 fn:PySem.W.isFn K (.ref f)=true
 kp:PySem.W.keepIn K (.ref C)=true
theorem DH {Q:VK}{vs:List V}(M:Mk X.K C f)(F:fm X.prog X.w X.K X.mg X.base CX k f fd ps sp)(hr:lE (k+1) X.A)(hb:Binds X.K fd ps ds)(hd:Vals dvs ds)
  (hx:Passes CX X E) (I:Inv X pins σ H s) (r:Vals vs us)
  (h:∀ x dx,H x=none->H dx=none->dx≠x->sp (.ref x::(vs++dvs)) (upd (upd H dx (.own x)) x (.ins C dx [])) (λv H2=>v = .non/\Q (.ref x) H2) E):
  wpAny (model X.prog X.w) X.A (call (.ref C) us) (EP X pins σ Q) X.xe s:=by
 have hq:=h (s.heap.objs.size+1) s.heap.objs.size (I.hok.fresh (Nat.le_succ _)) (I.hok.fresh (ai _)) (aK (Nat.lt_succ_self _))
 have I2:=Inv.made (C:=C) I
 have r2:Vals (V.ref (s.heap.objs.size+1)::(vs++dvs)) (Value.ref (s.heap.objs.size+1)::(us++ds)):=.cons rfl (r.append hd)
 have hl:(Value.ref (s.heap.objs.size+1)::us++ds).length=ps.length:=by
  have e:=r2.length
  rw[F.len _ _ _ _ hq]at e
  exact e.symm
 refine wpAny_call (Em (f:=f) I.kIn M.makes M.init (cO.mp M.fn) (eP (F.run _ X.stack _ _ ⟨Value.ref (s.heap.objs.size+1)::us,[]⟩ (Value.ref (s.heap.objs.size+1)::(us++ds)) _ _ E (hr.make C us [])
  (I2.HU.make C us []) (hb _ (Value.ref (s.heap.objs.size+1)::us) I2.kIn hl) r2 hq) λr s' hq'=>?_))
 cases r with
 |error e=>exact hx pins σ _ _ e s' I2 hq'
 |ok fl=>
  cases fl with
  |ret u=>
   obtain⟨v,H',I3,rv,ev,q3⟩:=I2.after hq'
   subst ev
   exact⟨rv,⟨V.ref (s.heap.objs.size+1),H',I3,rfl,q3⟩⟩
  |next=>exact False.elim hq'
  |brk=>exact False.elim hq'
  |cont=>exact False.elim hq'
theorem zd (M:Mk X.K C f)(F:fm X.prog X.w X.K X.mg X.base CX k f fd ps sp)(hr:lE (k+1) X.A)(hg:Gl X x)(hm:X.mg x=some (.ref C))(hb:Binds X.K fd ps ds)(hd:Vals dvs ds)(hx:Passes CX X E)
  (hdb:(x==("__debug__" :Str))=false:=by decide):PE X (.Call (.Name x p) [] [] pos) (IC C sp dvs E GS):=by
 intro pins s σ H Q I h
 refine cT (p9 I hg hm ?_ hdb)
 exact PySem.W.callWith_K0 I.kIn M.kp (DH (us:=[]) M F hr hb hd hx I .nil h)
end
structure fC (N P:List Str)(sc:Scope):Prop where
 kind:sc.kind = .function
 co:sc.isCoroutine=false
 gen:sc.isGenerator=false
 nd:N.Nodup
 pre:N.take P.length=P
 par:∀ x∈P,sc.names.lookup x=some .local\/sc.names.lookup x=some .cell
 Hl:∀ y∈sc.names,y.2≠ .free
theorem xi {kindOf:Str->Option NameKind}{x:Str} :∀ {binds:List (Str×Value)}{m:Str->Option Value},(∀ v,(x,v)∉binds)->bindL kindOf binds m x=m x
 |[],_,_=>rfl
 |(n,v)::r,m,h=>by
  unfold bindL
  rw[xi λw hw=>h w (ar _ hw)]
  split
  ·have:x≠n:=by rintro rfl;exact h v az
   simp[this]
  ·rfl
theorem xk {kindOf:Str->Option NameKind}{x:Str} :∀ {binds:List (Str×Value)}{m:Str->Option Value},(∀ v,(x,v)∉binds)->bindC kindOf binds m x=m x
 |[],_,_=>rfl
 |(n,v)::r,m,h=>by
  unfold bindC
  rw[xk λw hw=>h w (ar _ hw)]
  split
  ·rfl
  ·have:x≠n:=by rintro rfl;exact h v az
   simp[this]
theorem xj {kindOf:Str->Option NameKind}{x:Str}{v:Value} :∀ {P:List Str}{vs:List Value}{i:Nat}{m:Str->Option Value},P.Nodup->P[i]? = some x->vs[i]? = some v->kindOf x=some .local->
  bindL kindOf (P.zip vs) m x=some v
 |[],_,_,_,_,h,_,_=>by simp at h
 |_::_,[],_,_,_,_,h,_=>by simp at h
 |p::P,w::vs,0,m,nd,h1,h2,hk=>by
  simp at h1 h2;subst h1;subst h2
  show bindL kindOf ((p,w)::P.zip vs) m p=_
  unfold bindL
  rw[xi λv hv=>(cA.mp nd).1 (List.of_mem_zip hv).1,aA hk]
  simp
 |p::P,w::vs,i+1,m,nd,h1,h2,hk=>by
  show bindL kindOf ((p,w)::P.zip vs) m x=_
  unfold bindL
  exact xj (i:=i) (cA.mp nd).2 (by simpa using h1) (by simpa using h2) hk
theorem xm {kindOf:Str->Option NameKind}{x:Str}{v:Value} :∀ {P:List Str}{vs:List Value}{i:Nat}{m:Str->Option Value},P.Nodup->P[i]? = some x->vs[i]? = some v->kindOf x≠some .local->
  bindC kindOf (P.zip vs) m x=some v
 |[],_,_,_,_,h,_,_=>by simp at h
 |_::_,[],_,_,_,_,h,_=>by simp at h
 |p::P,w::vs,0,m,nd,h1,h2,hk=>by
  simp at h1 h2;subst h1;subst h2
  show bindC kindOf ((p,w)::P.zip vs) m p=_
  unfold bindC
  rw[xk λv hv=>(cA.mp nd).1 (List.of_mem_zip hv).1,au hk]
  simp
 |p::P,w::vs,i+1,m,nd,h1,h2,hk=>by
  show bindC kindOf ((p,w)::P.zip vs) m x=_
  unfold bindC
  exact xm (i:=i) (cA.mp nd).2 (by simpa using h1) (by simpa using h2) hk
noncomputable def start (N:List Str)(vs:List V):St:=vs.map some++List.replicate (N.length-vs.length) none
noncomputable def wt (CX:CXT)(P:Program)(w:World)(K:PySem.W.Frag)(mg:Str->Option Value)(base:Heap)(N:List Str)(qual:Str)(scope:Scope)(f:Addr)(cd:Value)(A:Around)(outer:List Env)(s:Shared)(H:Hp)(E:XK):Cx where
 prog:=P
 w:=w
 K:=K
 mg:=mg
 base:=base
 A:=A.deeper (envOfC qual scope s.heap.objs.size f cd)
 N:=N
 s₀:=s
 H₀:=H
 env:=envOfC qual scope s.heap.objs.size f cd
 outer:=outer
 stack:=envOfC qual scope s.heap.objs.size f cd::outer
 ex:=[]
 calm:=true
 fn:=λ_=>true
 pn:=[]
 xe:=λe s'=>wpAny (model P w) (A.deeper (envOfC qual scope s.heap.objs.size f cd)) (leaving (envOfC qual scope s.heap.objs.size f cd) e) (λ_ s''=>CX outer H s E e s'') (λe' s''=>CX outer H s E e' s'') s'
theorem Ac {sc:Scope}{n:Nat}(h:sc.names.lookup x=some .cell):∃ c,(cellsFrom n sc.names []).lookup x=some c:=by
 have q:=PySem.W.cellsFrom_some sc.names n [] (.inl h)
 exact eS.mp q
theorem CJ {CX:CXT}{N ps:List Str}{qual:Str}{scope:Scope}{f:Addr}{cd:Value}{outer:List Env}{s1:Shared}{E:XK}{vs:List V}
  (S:fC N ps scope) (hd:A.handled=none) (e0:Ba P w K mg base A outer s H) (hl:vs.length=ps.length) (r:Vals vs us)
  (x:InCallC s s.heap.objs.size (bindL (envOfC qual scope s.heap.objs.size f cd).kindOf (ps.zip us) λ_=>none) (cellsFrom (s.heap.objs.size+1) scope.names []) (bindC (envOfC qual scope s.heap.objs.size f cd).kindOf (ps.zip us) λ_=>none) s1):
  Inv (wt CX P w K mg base N qual scope f cd A outer s H E) [] (start N vs) H s1:=by
 have hpl:ps.length<=N.length:=by have:=cg List.length S.pre;rw[aN]at this;omega
 obtain⟨h1,tk,rfl,hk⟩:=x.done
 have noA:∀ b:Addr,b∉(wt CX P w K mg base N qual scope f cd A outer s H E).ex:=λb z=>absurd (show b∈([]:List Addr) from z) (by simp)
 refine⟨⟨e0.mod,S.kind,rfl,rfl,ai _,λy z c h1 h2=>?_,λy hy=>?_,λy c _ h=>?_,λ_=>hd,Around.frames_deeper e0.frames,.inr ⟨rfl,rfl⟩,λb z=>absurd z (noA b),e0.bs,e0.bsz,λb _ _=>noA b,λb z=>absurd z (noA b),e0.rm,e0.frf⟩,
  rfl,e0.bare,Un.kept hk,⟨_,x.toInCall.ns,λi y v h1 h2 h3=>?_⟩,λy c h=>⟨_,x.cell y c h⟩,e0.hok.fresh (ai _),λy c h=>?_,λp hp=>absurd (show p∈([]:List (Addr×Obj)) from hp) (by simp),e0.hok.kept hk,?_⟩
 ·exact name_of_addr x.apart (cp h1) (cp h2)
 ·have hy:scope.names.lookup y=some .cell\/scope.names.lookup y=some .free:=hy
  rcases hy with hy |hy
  ·exact Ac hy
  ·exact absurd rfl (S.Hl _ (cp hy))
 ·exact bZ (x.above y c (cp h))
 ·have hi:i<vs.length:=by
   unfold start at h2
   by_cases hi:i<vs.length
   ·exact hi
   ·rw[bf (by simpa using hi)]at h2
    rw[List.getElem?_replicate]at h2
    split at h2<;>cases h2
  have ha:vs[i]? = some v:=by
   unfold start at h2
   rw[ba (by simpa using hi),aq]at h2
   cases e:vs[i]? with
   |none=>rw[e]at h2;cases h2
   |some a=>rw[e]at h2;cases h2;rfl
  obtain⟨u,hu,rv⟩:=r.get ha
  have hp:ps[i]? = some y:=by
   rw[<-S.pre,cH (by omega)];exact h1
  have ndP:ps.Nodup:=by rw[<-S.pre];exact S.nd.sublist (eO _ _)
  refine⟨u,rv,?_⟩
  rcases S.par y (aD hp)with k |k
  ·exact .inl ⟨k,xj ndP hp hu k⟩
  ·obtain⟨c,e⟩:=Ac (n:=s.heap.objs.size+1) k
   refine .inr ⟨.inl k,c,e,?_⟩
   have q:=x.cell y c e
   rw[xm ndP hp hu (by show scope.names.lookup y≠_;rw[k];decide)]at q
   exact q
 ·exact e0.hok.fresh (bZ (x.above y c (cp h)))
 ·unfold start
  show _=N.length
  rw[aU,aa,List.length_replicate]
  omega
theorem GC {CX:CXT}{f:Addr}{name qual:Str}{params:Arguments}{body:List Stmt}{scope:Scope}{dV kV doc pm cdv ct oc:Value}{an od:Option Addr}
  {osl:Array (Option Value)}{N ps:List Str}{sp:Sp} (lk:K.lookup f=some ⟨oc,od,.func (PySem.W.fnOf name qual params body scope dV kV doc pm an cdv ct),osl⟩) (hcd:PySem.W.codeIn K cdv qual=true) (S:fC N ps scope)
  (len:∀ vs H Q E,sp vs H Q E->vs.length=ps.length)
  (zT:∀ (A:Around) (outer:List Env) (s:Shared) (H:Hp) (vs:List V) (Q:VK) (E:XK),lE k (A.deeper (envOfC qual scope s.heap.objs.size f cdv))->sp vs H Q E->
   ∃ t,PSs (wt CX P w K mg base N qual scope f cdv A outer s H E) body t/\t {nx:=λ_ H'=>Q .non H',rt:=Q} (start N vs) H):
  fm P w K mg base CX (k+1) f (PySem.W.fnOf name qual params body scope dV kV doc pm an cdv ct) ps sp:=by
 refine⟨len,λA outer s H args us vs Q E hr e0 hb r hsp=>?_⟩
 have hl:=len _ _ _ _ hsp
 have KX:K.In s.heap:=e0.mod.kin.keeps λb o e=>(e0.bs b o e).1
 have lim:s.heap.NoLimit:=e0.mod.nolimit.keeps λb o e=>(e0.bs b o e).1
 have BG:∀ y∈ps.zip us,scope.names.lookup y.1=some .local\/(scope.names.lookup y.1=some .cell/\((cellsFrom (s.heap.objs.size+1) scope.names []).lookup y.1).isSome=true):=λ⟨n,v⟩ hy=>by
  rcases S.par n (List.of_mem_zip hy).1 with q |q
  ·exact .inl q
  ·exact .inr ⟨q,PySem.W.cellsFrom_some _ _ _ (.inl q)⟩
 refine codeAny_call_function hr.depth (KX _ _ lk) rfl S.co S.gen rfl (PySem.W.codeRec_of KX hcd) (hb _ _ _ _ ?_)
 refine wpAny_newFunctionEnv_cells S.kind BG λenv he s1 x=>?_
 subst he
 refine⟨lim.keeps x.toInCall.keep,codeAny_func ?_⟩
 obtain⟨t,ht,hq⟩:=zT A outer s H vs Q E (hr.deeper _) hsp
 have I:Inv (wt CX P w K mg base N qual scope f cdv A outer s H E) [] (start N vs) H s1:=CJ S hr.hd e0 hl r x
 refine aY (ht [] s1 (start N vs) H _ I hq) (λfl s' hs=>?_) λe s' hs=>hs
 have fin:∀ {σ':St}{H':Hp}{v:V}{u:Value},Inv (wt CX P w K mg base N qual scope f cdv A outer s H E) [] σ' H' s'->RelV v u->Q v H'->CE outer P w H s Q u s':=
  λ{σ' H' v u} J rv q=>⟨v,H',J.os,J.bare,J.base,J.hok,rv,q⟩
 cases fl with
 |ret u=>
  obtain⟨v,σ',H',J,rv,q⟩:=hs
  exact fin J rv q
 |next=>
  obtain⟨σ',H',J,q⟩:=hs
  exact fin (v:=V.non) (u:=Value.none) J rfl q
 |brk=>
  obtain⟨_,_,_,q⟩:=hs
  exact False.elim q
 |cont=>
  obtain⟨_,_,_,q⟩:=hs
  exact False.elim q
section
variable {X:Cx}{x:Str}{p pos:Pos}{e:Expr}{es:List Expr}{t:TA}{id T:String}{r:List V->Hp->VK->Prop}
noncomputable def tCB (r:List V->Hp->VK->Prop)(t:TA):TE:=λσ H Q=>t σ H λvs H1=>r vs H1 Q
theorem gd (hc:jN X (.builtin id) r)(hg:Gl X x)(hm:X.mg x=none)(hv:bootBuiltins x=some (.builtin id))(ha:PA X (e::es) t)(hn:x≠ "__name__" :=by decide)(hdb:(x==("__debug__" :Str))=false:=by decide)
  (he:starEach (e::es) X.env=(false,eval e X.env)::starEach es X.env:=by rfl) (hpl:(backTo pos (starEach es X.env)).any (·.1)=false:=by rfl):PE X (.Call (.Name x p) (e::es) [] pos) (tCB r t):=by
 intro pins s σ H Q I h
 refine cT (qC I hg hm hv ?_ hn hdb)
 exact PyProof.Rows.callWith_builtin1 (thn (ha pos pins s σ H _ I h) λus s1 ⟨vs,H1,I1,r1,q1⟩=>hc pins s1 σ H1 vs us Q I1 r1 q1) he hpl
theorem kc (hc:jN X (.type T) r)(hg:Gl X x)(hm:X.mg x=none)(hv:bootBuiltins x=some (.type T))(ha:PA X (e::es) t)(hn:x≠ "__name__" :=by decide)(hdb:(x==("__debug__" :Str))=false:=by decide)
  (he:starEach (e::es) X.env=(false,eval e X.env)::starEach es X.env:=by rfl) (hpl:(backTo pos (starEach es X.env)).any (·.1)=false:=by rfl):PE X (.Call (.Name x p) (e::es) [] pos) (tCB r t):=by
 intro pins s σ H Q I h
 refine cT (qC I hg hm hv ?_ hn hdb)
 exact cR (thn (ha pos pins s σ H _ I h) λus s1 ⟨vs,H1,I1,r1,q1⟩=>hc pins s1 σ H1 vs us Q I1 r1 q1) he hpl
theorem Az (hc:jN X (.type T) r)(hg:Gl X x)(hm:X.mg x=none)(hv:bootBuiltins x=some (.type T))(hn:x≠ "__name__" :=by decide)(hdb:(x==("__debug__" :Str))=false:=by decide):
  PE X (.Call (.Name x p) [] [] pos) (tCB r GS):=by
 intro pins s σ H Q I h
 refine cT (qC I hg hm hv ?_ hn hdb)
 exact PyProof.Rows.callWith_type0 (hc pins s σ H [] [] Q I .nil h)
end
end L2
namespace HT
open PySem PyProof.Rows
section
variable {prog:Program}{w:World}{A:Around}{E:Value->Shared->Prop}{s:Shared}
noncomputable def sIx (n d:Nat):Option Int->Nat
 |none=>d
 |some v=>if v<0 then(v+(n:Int)).toNat else min v.toNat n
theorem qW (n d:Nat):sIx n d none=d:=rfl
theorem xM (n d k:Nat):sIx n d (some (k:Int))=min k n:=by
 show(if(k:Int)<0 then((k:Int)+(n:Int)).toNat else min (k:Int).toNat n)=min k n
 rw[au (by omega),Int.toNat_natCast]
theorem F5 (v:Int)(n d:Nat):(if v<0 then max (v+(n:Int)) 0 else min v (n:Int))=((sIx n d (some v):Nat):Int):=by
 show(if v<0 then max (v+(n:Int)) 0 else min v (n:Int))=(((if v<0 then(v+(n:Int)).toNat else min v.toNat n):Nat):Int)
 by_cases hv:v<0
 ·simp only[aA hv];omega
 ·simp only[au hv];omega
end
end HT
namespace L2
open PySem PySem.Spec PyProof.Rows
noncomputable abbrev TO:=St->Hp->(Option Int->Hp->Prop)->Prop
noncomputable def PO (X:Cx)(e:Option Expr)(t:TO):Prop:=
 ∀ (pins:List (Addr×Obj)) (s:Shared) (σ:St) (H:Hp) (Q:Option Int->Hp->Prop),Inv X pins σ H s->t σ H Q->
  wpAny (model X.prog X.w) X.A (evalPart e X.env) (λu s'=>∃ o H',Inv X pins σ H' s'/\IsPart u o/\Q o H') X.xe s
noncomputable def Fh:TO:=λ_ H Q=>Q none H
noncomputable def Iz (t:TE):TO:=λσ H Q=>t σ H λx H1=>∃ i,x = .int i/\Q (some i) H1
theorem intsAre_of {ns:List Int} :∀ {us:List Value},Vals (ns.map V.int) us->IntsAre us ns:=by
 induction ns with
 |nil=>intro us r;rw[List.map_nil]at r;cases r;exact .nil
 |cons n ns ih=>
  intro us r
  rw[bt]at r
  cases r with
  |cons r1 r2=>
   obtain⟨t,e⟩:=r1
   subst e
   exact .cons n t (ih r2)
section
variable {X:Cx}{e:Expr}{te:TE}{lo hi:Option Expr}{tl th:TO}{pos p2:Pos}
theorem lX:PO X none Fh:=by
 intro pins s σ H Q I h
 rw[evalPart_none]
 exact aj ⟨none,H,I,.none,h⟩
theorem lr (h:PE X e te):PO X (some e) (Iz te):=by
 intro pins s σ H Q I hw
 rw[evalPart_some]
 refine thn (h pins s σ H _ I hw) λu s1 ⟨x,H1,I1,r1,q1⟩=>?_
 obtain⟨i,rfl,q⟩:=q1
 obtain⟨t,rfl⟩:=r1
 exact⟨some i,H1,I1,.int i t,q⟩
noncomputable def SlR (X:Cx)(r:V->Option Int->Option Int->Hp->VK->Prop):Prop:=
 ∀ (pins:List (Addr×Obj)) (s:Shared) (σ:St) (H:Hp) (x:V) (v vl vu:Value) (lo hi:Option Int) (sl:Addr) (Q:VK),Inv X pins σ H s->RelV x v->s.heap.IsSliceOf sl vl vu .none->IsPart vl lo->IsPart vu hi->r x lo hi H Q->
  ∃ T id,typeLookup (.type T) "__getitem__" = pure (some (.builtin id))/\s.TypeIs v T/\wpAny (model X.prog X.w) X.A (getItem v (.ref sl)) (EP X pins σ Q) X.xe s
noncomputable def tSl (r:V->Option Int->Option Int->Hp->VK->Prop)(te:TE)(tl th:TO):TE:=λσ H Q=>te σ H λx H1=>tl σ H1 λl H2=>th σ H2 λu H3=>r x l u H3 Q
theorem kD {r:V->Option Int->Option Int->Hp->VK->Prop}(hr:SlR X r)(he:PE X e te)(hl:PO X lo tl)(hu:PO X hi th):PE X (.Subscript e (.Slice lo hi none p2) pos) (tSl r te tl th):=by
 intro pins s σ H Q I h
 refine Subscript_ (thn (he pins s σ H _ I h) λv s1 ⟨x,H1,I1,r1,q1⟩=>?_)
 refine wpAny_Slice (thn (hl pins s1 σ H1 _ I1 q1) λvl s2 ⟨l,H2,I2,pl,q2⟩=>thn (hu pins s2 σ H2 _ I2 q2) λvu s3 ⟨u,H3,I3,pu,q3⟩=>?_)
 rw[evalPart_none]
 refine aj ?_
 have I4:Inv X pins σ H3 {s3 with heap:=s3.heap.push {cls:=.type "slice",data:=.fields #[vl,vu,.none]}} :=I3.kept (t':=s3.toks) λb ob q=>ak _ q
 obtain⟨T,id,hT,ht,hg⟩:=hr pins {s3 with heap:=s3.heap.push {cls:=.type "slice",data:=.fields #[vl,vu,.none]}} σ H3 x v vl vu l u s3.heap.objs.size Q I4 r1 (Heap.IsSliceOf.new ..) pl pu q3
 show wpAny (model X.prog X.w) X.A (subscriptTail e (.Slice lo hi none p2) v (.ref s3.heap.objs.size)) (EP X pins σ Q) X.xe {s3 with heap:=s3.heap.push {cls:=.type "slice",data:=.fields #[vl,vu,.none]}}
 exact tail_any (ops:=[.ref s3.heap.objs.size,v]) ht hT hg (by with_unfolding_all rfl)
noncomputable def oZ (xs:List V)(lo hi:Option Int):List V:=(xs.drop (HT.sIx xs.length 0 lo)).take (HT.sIx xs.length xs.length hi-HT.sIx xs.length 0 lo)
theorem zZ (xs:List V)(lo hi:Option Int):(oZ xs lo hi).length<=xs.length:=by
 unfold oZ
 rw[aN,bC]
 omega
end
noncomputable def ixN (n:Nat)(i:Int):Option Nat:=if 0<=i then(if i<n then some i.toNat else none)else if -(n:Int)<=i then some (i+n).toNat else none
noncomputable def atI {α:Type}(xs:List α)(i:Int):Option α:=(ixN xs.length i).bind λj=>xs[j]?
theorem BF {n:Nat}{i:Int}{j:Nat}(h:ixN n i=some j):seqIndex? i n=some j/\j<n/\ -(n:Int)<=i/\i<n:=by
 unfold ixN at h
 by_cases h0:0<=i
 ·rw[aA h0]at h
  by_cases h1:i<n
  ·rw[aA h1]at h
   have e:i.toNat=j:=bx h
   exact⟨by rw[seqIndex_of h0 h1,e],by omega,by omega,h1⟩
  ·rw[au h1]at h;cases h
 ·rw[au h0]at h
  by_cases h1: -(n:Int)<=i
  ·rw[aA h1]at h
   have e:(i+n).toNat=j:=bx h
   exact⟨by rw[seqIndex_neg (by omega) h1,e],by omega,h1,by omega⟩
  ·rw[au h1]at h;cases h
theorem yA {α:Type}{xs:List α}{i:Int}{v:α}(h:atI xs i=some v):∃ j,seqIndex? i xs.length=some j/\xs[j]? = some v/\j<xs.length/\ -(xs.length:Int)<=i/\i<xs.length:=by
 unfold atI at h
 cases e:ixN xs.length i with
 |none=>rw[e]at h;cases h
 |some j=>
  rw[e]at h
  obtain⟨h1,h2,h3,h4⟩:=BF e
  exact⟨j,h1,h,h2,h3,h4⟩
theorem jS {α:Type}{xs:List α}{j:Nat}{v:α}(h:xs[j]? = some v):atI xs (j:Int)=some v:=by
 have hj:j<xs.length:=(af.mp h).1
 have e:ixN xs.length (j:Int)=some j:=by
  unfold ixN
  rw[aA (by omega),aA (by omega)];simp
 unfold atI;rw[e];exact h
theorem Ah {α:Type}(xs:List α)(v:α):atI (xs ++ [v]) (-1)=some v:=by
 have hl:(xs ++ [v]).length=xs.length+1:=by simp
 have e:ixN (xs ++ [v]).length (-1)=some xs.length:=by
  unfold ixN
  rw[hl,au (by decide),aA (by omega)]
  congr 1
  omega
 unfold atI
 rw[e]
 show(xs ++ [v])[xs.length]? = some v
 simp
noncomputable def Ga (b:Expr):Prop:=∀ o i,subscripted b false o i=operate [o,i] (getItem o i)
noncomputable def IxR (X:Cx)(r:R2):Prop:=
 ∀ (value slice:Expr) (pins:List (Addr×Obj)) (s:Shared) (σ:St) (H:Hp) (x y:V) (v u:Value) (Q:VK),Inv X pins σ H s->RelV x v->RelV y u->r x y H Q->
  subscripted slice false v u=operate [v,u] (getItem v u)->wpAny (model X.prog X.w) X.A (subscriptTail value slice v u) (EP X pins σ Q) X.xe s
noncomputable def MtR (X:Cx)(id:String)(r:V->List V->Hp->VK->Prop):Prop:=
 ∀ (pins:List (Addr×Obj)) (s:Shared) (σ:St) (H:Hp) (x:V) (xs:List V) (v:Value) (us:List Value) (Q:VK),Inv X pins σ H s->RelV x v->Vals xs us->r x xs H Q->
  wpAny (model X.prog X.w) X.A (call (.builtin id) (v::us)) (EP X pins σ Q) X.xe s
section
variable {X:Cx}{a b:Expr}{ta tb:TE}{pos:Pos}
theorem gr {r:R2}(hr:IxR X r)(ha:PE X a ta)(hb:PE X b tb)(hs:Ga b):PE X (.Subscript a b pos) (tOp r ta tb):=by
 intro pins s σ H Q I h
 exact Subscript_ (HY ha hb I h λv u s2 x y H2 I2 rx ry q=>hr a b pins s2 σ H2 x y v u Q I2 rx ry q (hs _ _))
noncomputable def K3 (K:PySem.W.Frag):R2:=λx y H Q=>∃ p xs i v,x = .ref p/\y = .int i/\SqL K H p xs/\atI xs i=some v/\Q v H
noncomputable def K1 (K:PySem.W.Frag):R2:=λx y H Q=>∃ p xs i v,x = .ref p/\y = .int i/\SqT K H p xs/\atI xs i=some v/\Q v H
noncomputable def K2:R2:=λx y H Q=>∃ z i c,x = .str z/\y = .int i/\z.length<=sizeLine/\atI z.cps.toList i=some c/\Q (.str ⟨#[c]⟩) H
theorem gh:IxR X (K3 X.K):=by
 intro value slice pins s σ H x y v u Q I rx ry h hs
 obtain⟨p,xs,i,z,rfl,rfl,hq,he,q⟩:=h
 cases rx
 obtain⟨t,rfl⟩:=ry
 obtain⟨its,r,pl,hz⟩:=I.list hq
 obtain⟨j,h1,h2,h3,h4,h5⟩:=yA he
 obtain⟨w,ew,rw'⟩:=r.get h2
 have hl:=r.length
 have hn:=qB
 have fin:EP X pins σ Q w s:=⟨z,H,I,rw',q⟩
 by_cases h0:0<=i
 ·have hj:i.toNat=j:=by
   rw[seqIndex_of h0 h5]at h1
   exact bx h1
  exact item_listR pl.isList h0 (by omega) (by rw[hj];simpa using ew) fin hs
 ·have hj:(i+(its.toArray.size:Int)).toNat=j:=by
   rw[seqIndex_neg (by omega) h4]at h1
   rw[aE,<-hl]
   exact bx h1
  exact subscriptTail_builtinR (x:=w) pl.isList.typeIs slot_list_getitem.lookup
   (wpAny_getItem_list_neg (Q:=λr s'=>r=w/\EP X pins σ Q r s') pl.isList (by omega) (by rw[aE]<;>omega) (by omega) (by rw[hj];simpa using ew) ⟨rfl,fin⟩) hs
theorem lI:IxR X (K1 X.K):=by
 intro value slice pins s σ H x y v u Q I rx ry h hs
 obtain⟨p,xs,i,z,rfl,rfl,hq,he,q⟩:=h
 cases rx
 obtain⟨t,rfl⟩:=ry
 obtain⟨its,r,pl,hz⟩:=I.tuple hq
 obtain⟨j,h1,h2,h3,h4,h5⟩:=yA he
 obtain⟨w,ew,rw'⟩:=r.get h2
 have hl:=r.length
 have hn:=qB
 have fin:EP X pins σ Q w s:=⟨z,H,I,rw',q⟩
 exact subscriptTail_builtinR (x:=w) pl.typeIs slot_tuple_getitem.lookup
  (getItem_tuple (j:=j) (Q:=λr s'=>r=w/\EP X pins σ Q r s') pl (by omega) (by omega) (by rw[aE,<-hl];exact h1) (by simpa using ew) ⟨rfl,fin⟩) hs
theorem AU:IxR X K2:=by
 intro value slice pins s σ H x y v u Q I rx ry h hs
 obtain⟨z,i,c,rfl,rfl,hz,he,q⟩:=h
 obtain⟨t,rfl⟩:=rx
 obtain⟨t',rfl⟩:=ry
 obtain⟨j,h1,h2,h3,h4,h5⟩:=yA he
 have hl:z.cps.toList.length=z.length:=by simp[Str.length]
 rw[hl]at h1 h4 h5
 have hn:=qB
 exact tail_any (eT s z t) slot_str_getitem.lookup (getItem_str (c:=c) (by
  have e1:decide (i < -(2 ^ 63:Int))=false:=bF (by omega)
  have e2:decide (i≥2 ^ 63)=false:=bF (by omega)
  rw[e1,e2,Bool.or_false]) (by rw[h1];simpa using h2) ⟨.str ⟨#[c]⟩,H,I.tok _,⟨_,rfl⟩,q⟩) hs
theorem AM (its:List Value)(n j:Nat)(u:Value):Obj.mapSeq (·.setIfInBounds j u) {cls:=.type "list",data:=.seq its.toArray n} = {cls:=.type "list",data:=.seq (its.set j u).toArray n} :=by
 simp[Obj.mapSeq]
theorem Inv.lst {pins:List (Addr×Obj)}{σ:St}{H:Hp}{s:Shared}{p:Addr}{xs:List V}(I:Inv X pins σ H s)(h:H p=some (.lst xs)):
  ∃ (its:List Value) (n:Nat),Vals xs its/\s.heap.get? p=some {cls:=.type "list",data:=.seq its.toArray n} /\xs.length<=sizeLine:=by
 obtain⟨z,its,n,r,e⟩:=I.hok p _ h
 exact⟨its,n,r,e,z⟩
theorem Inv.Hq {pins:List (Addr×Obj)}{σ:St}{H:Hp}{s:Shared}{p:Addr}{xs ys:List V}{its its':List Value}{n n':Nat}{f:Obj->Obj}(I:Inv X pins σ H s)(h:H p=some (.lst xs))
  (ho:s.heap.get? p=some {cls:=.type "list",data:=.seq its.toArray n}) (hf:f {cls:=.type "list",data:=.seq its.toArray n} = {cls:=.type "list",data:=.seq its'.toArray n'}) (r:Vals ys its') (hz:ys.length<=sizeLine) (t:Nat):
  Inv X pins σ (upd H p (.lst ys)) {s with heap:=s.heap.update p f,toks:=t} :=by
 have e:(s.heap.update p f).get? p=some {cls:=.type "list",data:=.seq its'.toArray n'} :=by
  rw[Heap.get?_update_self f ho (by rw[hf]<;>rfl),hf]
 refine I.write (x:=p) (e:=p) (by rw[h];trivial) (.inl rfl) (λb u hb q=>(Heap.get?_update_other _ _ (bX hb)).trans q) ⟨_,e⟩ ?_
 exact⟨hz,its',n',r,e⟩
noncomputable def IM:V->V->V->Hp->(Hp->Prop)->Prop:=λo i v H Q=>∃ p xs k j,o = .ref p/\i = .int k/\H p=some (.lst xs)/\ixN xs.length k=some j/\Q (upd H p (.lst (xs.set j v)))
theorem set_list:JO X IM:=by
 intro pins s σ H o i v ov iv u Q I ro ri rv h
 obtain⟨p,xs,k,j,rfl,rfl,hp,hj,q⟩:=h
 cases ro
 obtain⟨t,rfl⟩:=ri
 obtain⟨its,n,r,ho,hz⟩:=I.lst hp
 obtain⟨h1,h2,h3,h4⟩:=BF hj
 have hl:=r.length
 have hn:=qB
 have I':Inv X pins σ (upd H p (.lst (xs.set j v))) {s with heap:=s.heap.update p (Obj.mapSeq (·.setIfInBounds j u))} :=
  I.Hq hp ho (AM its n j u) (r.set rv j) (by rw[List.length_set];exact hz) s.toks
 by_cases h0:0<=k
 ·have hk:k.toNat=j:=by
   rw[seqIndex_of h0 h4]at h1
   exact bx h1
  exact PySem.W.ki_setAt ho h0 (by omega) (by rw[aE,<-hl];exact h4) (by rw[hk];exact⟨_,I',q⟩)
 ·have hk:(k+(its.toArray.size:Int)).toNat=j:=by
   rw[seqIndex_neg (by omega) h3]at h1
   rw[aE,<-hl]
   exact bx h1
  exact PySem.W.ki_setBack ho (by omega) (by rw[aE,<-hl];exact h3) (by omega) (by rw[hk];exact⟨_,I',q⟩)
theorem xC (lo hi:Option Int)(n:Nat):(sliceBounds lo hi none n).1=((HT.sIx n 0 lo:Nat):Int)/\(sliceBounds lo hi none n).2.1=((HT.sIx n n hi:Nat):Int)/\(sliceBounds lo hi none n).2.2=1:=by
 refine⟨?_,?_,rfl⟩
 ·cases lo with
  |none=>simp[sliceBounds,HT.sIx]
  |some i=>
   simp only[sliceBounds,HT.sIx,Option.getD_none,show(1:Int)>0 by decide,dt]
   by_cases h:i<0
   ·simp only[h,dt]<;>omega
   ·simp only[h,bQ]<;>omega
 ·cases hi with
  |none=>simp[sliceBounds,HT.sIx]
  |some i=>
   simp only[sliceBounds,HT.sIx,Option.getD_none,show(1:Int)>0 by decide,dt]
   by_cases h:i<0
   ·simp only[h,dt]<;>omega
   ·simp only[h,bQ]<;>omega
theorem vP (its:List Value)(lo hi:Option Int):slicePick its.toArray lo hi none=((its.drop (HT.sIx its.length 0 lo)).take (HT.sIx its.length its.length hi-HT.sIx its.length 0 lo)).toArray:=by
 obtain⟨h1,h2,h3⟩:=xC lo hi its.toArray.size
 unfold slicePick
 rw[h1,h2,h3]
 simp only[sliceRange_one,pick_run,aE]<;>rfl
noncomputable def KZ (K:PySem.W.Frag):V->Option Int->Option Int->Hp->VK->Prop:=λx lo hi H Q=>∃ a xs,x = .ref a/\SqL K H a xs/\∀ p,H p=none->Q (.ref p) (upd H p (.lst (oZ xs lo hi)))
theorem mS:SlR X (KZ X.K):=by
 intro pins s σ H x v vl vu lo hi sl Q I rx hs pl pu h
 obtain⟨a,xs,rfl,hx,q⟩:=h
 cases rx
 obtain⟨its,r,ht,hz⟩:=I.list hx
 have hlen:=r.length
 refine⟨"list",_,slot_list_getitem.lookup,ht.isList.typeIs,?_⟩
 refine wpAny_getItem_list_slice ht.isList hs pl pu .none (by simp) ?_ (by rw[aE]<;>omega)
 rw[vP,<-hlen]
 refine⟨.ref s.heap.objs.size,_,I.laid (t':=s.toks) (o:=.lst (oZ xs lo hi)) (λb ob q=>ak _ q) (ai _) ?_,rfl,q _ (I.hok.fresh (ai _))⟩
 exact⟨bq (zZ xs lo hi) hz,_,0,(r.drop (HT.sIx xs.length 0 lo)).take (HT.sIx xs.length xs.length hi-HT.sIx xs.length 0 lo),aR _ rfl⟩
noncomputable def tI:V->Bool
 |.non=>true
 |.bl _=>true
 |.int _=>true
 |.str _=>true
 |_=>false
noncomputable def eqV:V->V->Bool
 |.non,.non=>true
 |.bl a,.bl b=>a==b
 |.bl a,.int b=>(if a then 1 else 0)==b
 |.int a,.bl b=>a==(if b then 1 else 0)
 |.int a,.int b=>a==b
 |.str a,.str b=>a==b
 |_,_=>false
theorem HS {A:Around}{s:Shared}{y x:V}{u v:Value}(ry:RelV y u)(rx:RelV x v)(fy:tI y=true)(fx:tI x=true):SeqAt.EqAt A s u v (eqV y x):=by
 cases y with
 |non=>
  cases ry
  cases x with
  |non=>cases rx;exact SeqAt.EqAt.same _
  |bl b=>cases rx;exact SeqAt.EqAt.none_bool b
  |int b=>obtain⟨t,rfl⟩:=rx;exact SeqAt.EqAt.none_int b t
  |str b=>obtain⟨t,rfl⟩:=rx;exact SeqAt.EqAt.none_str b t
  |_=>exact absurd (show false=true from fx) aC
 |bl a=>
  cases ry
  cases x with
  |non=>cases rx;exact SeqAt.EqAt.bool_none a
  |bl b=>cases rx;exact SeqAt.EqAt.bool_bool a b
  |int b=>obtain⟨t,rfl⟩:=rx;exact SeqAt.EqAt.bool_int a b t
  |str b=>obtain⟨t,rfl⟩:=rx;exact SeqAt.EqAt.bool_str a b t
  |_=>exact absurd (show false=true from fx) aC
 |int a=>
  obtain⟨t',rfl⟩:=ry
  cases x with
  |non=>cases rx;exact SeqAt.EqAt.int_none a t'
  |bl b=>cases rx;exact SeqAt.EqAt.int_bool a t' b
  |int b=>obtain⟨t,rfl⟩:=rx;exact SeqAt.EqAt.int_int a t' b t
  |str b=>obtain⟨t,rfl⟩:=rx;exact SeqAt.EqAt.int_str a t' b t
  |_=>exact absurd (show false=true from fx) aC
 |str a=>
  obtain⟨t',rfl⟩:=ry
  cases x with
  |non=>cases rx;exact SeqAt.EqAt.str_none a t'
  |bl b=>cases rx;exact SeqAt.EqAt.str_bool a t' b
  |int b=>obtain⟨t,rfl⟩:=rx;exact SeqAt.EqAt.str_int a t' b t
  |str b=>obtain⟨t,rfl⟩:=rx;exact SeqAt.EqAt.str_str a t' b t
  |_=>exact absurd (show false=true from fx) aC
 |_=>exact absurd (show false=true from fy) aC
noncomputable def eqU (x:V)(u:Value):Bool:=match u with
 |.none=>eqV .non x
 |.bool b=>eqV (.bl b) x
 |.int i _=>eqV (.int i) x
 |.str z _=>eqV (.str z) x
 |_=>false
theorem EL {x y:V}{u:Value}(r:RelV y u)(f:tI y=true):eqU x u=eqV y x:=by
 cases y with
 |non=>cases r;rfl
 |bl b=>cases r;rfl
 |int i=>obtain⟨t,rfl⟩:=r;rfl
 |str z=>obtain⟨t,rfl⟩:=r;rfl
 |_=>exact absurd (show false=true from f) aC
theorem yB {x:V} :∀ {xs:List V}{us:List Value},Vals xs us->xs.all tI=true->us.any (eqU x)=xs.any λy=>eqV y x
 |_,_,.nil,_=>rfl
 |y::xs,u::us,.cons r t,f=>by
  rw[List.all_cons,cM]at f
  rw[List.any_cons,List.any_cons,EL r f.1,yB t f.2]
theorem uY {A:Around}{s:Shared}{x:V}{v:Value}(rx:RelV x v)(fx:tI x=true):∀ {xs:List V}{us:List Value},Vals xs us->xs.all tI=true->∀ u∈us,SeqAt.EqAt A s u v (eqU x u)
 |_,_,.nil,_=>λu hu=>by cases hu
 |y::xs,u::us,.cons r t,f=>λu' hu=>by
  rw[List.all_cons,cM]at f
  rcases aI.mp hu with rfl |hu
  ·rw[EL r f.1];exact HS r rx f.1 fx
  ·exact uY rx fx t f.2 u' hu
noncomputable def inV (x:V)(xs:List V):Bool:=xs.any λy=>eqV y x
noncomputable def rIn (K:PySem.W.Frag)(neg:Bool):R2:=λx y H Q=>∃ p xs,y = .ref p/\(SqL K H p xs\/SqT K H p xs)/\tI x=true/\xs.all tI=true/\Q (.bl (if neg then !inV x xs else inV x xs)) H
theorem Cs:OpR X (compareOp .In) (rIn X.K false):=by
 intro pins s σ H x y v u Q I rx ry h
 obtain⟨p,xs,rfl,hq,fx,fs,q⟩:=h
 cases ry
 rcases hq with hq |hq
 ·obtain⟨its,r,pl,hz⟩:=I.list hq
  refine SeqAt.in_listAt (eqU x) pl.isList (λw hw=>uY rx fx r fs w (by simpa using hw)) ⟨.bl _,H,I,rfl,?_⟩
  rw[show its.toArray.any (eqU x)=its.any (eqU x) by simp,yB r fs]
  exact q
 ·obtain⟨its,r,pl,hz⟩:=I.tuple hq
  refine SeqAt.in_tupleAt (eqU x) pl (λw hw=>uY rx fx r fs w (by simpa using hw)) ⟨.bl _,H,I,rfl,?_⟩
  rw[show its.toArray.any (eqU x)=its.any (eqU x) by simp,yB r fs]
  exact q
theorem iB:jN X (.builtin "len") (λxs H Q=>∃ p ys,xs = [.ref p]/\(SqL X.K H p ys\/SqT X.K H p ys)/\Q (.int ys.length) H):=by
 intro pins s σ H xs us Q I r h
 obtain⟨p,ys,rfl,hq,q⟩:=h
 obtain⟨u,rfl,rx⟩:=vals1 r
 cases rx
 have hn:=qB
 rcases hq with hq |hq
 ·obtain⟨its,r',pl,hz⟩:=I.list hq
  have hlen:=r'.length
  exact Calls.call_len_list pl.isList (by simp only[aE]<;>omega) ⟨.int ys.length,H,I.tok _,⟨s.toks+1,by rw[aE,hlen]⟩,q⟩
 ·obtain⟨its,r',pl,hz⟩:=I.tuple hq
  have hlen:=r'.length
  exact len_tuple pl (by simp only[aE]<;>omega) ⟨.int ys.length,H,I.tok _,⟨s.toks+1,by rw[aE,hlen]⟩,q⟩
theorem yz:jN X (.builtin "len") (λxs H Q=>∃ z,xs = [.str z]/\z.length<=sizeLine/\Q (.int z.length) H):=by
 intro pins s σ H xs us Q I r h
 obtain⟨z,rfl,hz,q⟩:=h
 obtain⟨u,rfl,t,rfl⟩:=vals1 r
 have hn:=qB
 exact len_str (by omega) ⟨.int z.length,H,I.tok _,⟨_,rfl⟩,q⟩
theorem yx:jN X (.type "list") (λxs H Q=>∃ p ys,xs = [.ref p]/\(SqL X.K H p ys\/SqT X.K H p ys)/\∀ l,H l=none->Q (.ref l) (upd H l (.lst ys))):=by
 intro pins s σ H xs us Q I r h
 obtain⟨p,ys,rfl,hq,q⟩:=h
 obtain⟨u,rfl,rx⟩:=vals1 r
 cases rx
 have fin:∀ (its:List Value),Vals ys its->ys.length<=sizeLine->∀ (h':Heap) (c':Nat),(∀ b o',s.heap.get? b=some o'->h'.get? b=some o')->
   h'.get? s.heap.objs.size=some {cls:=.type "list",dict:=none,data:=.seq its.toArray c',slots:= #[]} ->EP X pins σ Q (.ref s.heap.objs.size) {s with heap:=h'} :=λits r' hz h' c' kp e=>
  ⟨.ref s.heap.objs.size,_,I.laid (t':=s.toks) kp (ai _) (show iZ X.prog X.w _ h' _ (.lst ys) from⟨hz,its,c',r',e⟩),rfl,q _ (I.hok.fresh (ai _))⟩
 rcases hq with hq |hq
 ·obtain⟨its,r',pl,hz⟩:=I.list hq
  have hlen:=r'.length
  obtain⟨o,ho,hc,n,hd⟩:=pl.isList
  exact call_list_seq p (.inl rfl) ho hc hd (λh' c' kp e=>fin its r' hz h' c' kp e) (by simp only[aE]<;>omega)
 ·obtain⟨its,r',pl,hz⟩:=I.tuple hq
  have hlen:=r'.length
  obtain⟨o,ho,hc,n,hd⟩:=pl
  exact call_list_seq p (.inr rfl) ho hc hd (λh' c' kp e=>fin its r' hz h' c' kp e) (by simp only[aE]<;>omega)
noncomputable def tyV (K:PySem.W.Frag)(T:String)(x:V)(H:Hp):Prop:=match x with
 |.str _=>T = "str"
 |.int _=>T = "int"
 |.ref p=>(T = "list" /\∃ xs,SqL K H p xs)\/(T = "tuple" /\∃ o,K.lookup p=some o/\o.cls = .type "tuple" /\o.dict=none)\/
   (T = "dict" /\((∃ kvs,H p=some (.dK kvs))\/∃ kvs,H p=some (.dT kvs)))\/(T = "set" /\∃ S n,H p=some (.set S n))
 |_=>False
theorem GO {pins:List (Addr×Obj)}{σ:St}{H:Hp}{s:Shared}{T:String}{x:V}{v:Value}(I:Inv X pins σ H s)(r:RelV x v)(ty:tyV X.K T x H):
  s.TypeIs v T/\∀ a,v = .ref a->∃ ob,s.heap.get? a=some ob/\ob.dict=none:=by
 cases x with
 |str z=>
  obtain⟨t,rfl⟩:=r
  cases(show T = "str" from ty)
  exact⟨eT s z t,λ_ e=>nomatch e⟩
 |int i=>
  obtain⟨t,rfl⟩:=r
  cases(show T = "int" from ty)
  exact⟨typeIs_int s i t,λ_ e=>nomatch e⟩
 |ref p=>
  cases r
  rcases ty with⟨rfl,xs,hq⟩|⟨rfl,o,hk,hc,hd⟩|⟨rfl,hk⟩|⟨rfl,S,n,hk⟩
  ·obtain⟨its,_,pl,_⟩:=I.list hq
   refine⟨pl.isList.typeIs,λa e=>?_⟩
   cases e
   obtain⟨o,n,e,c,hd,_⟩:=pl
   exact⟨o,e,hd⟩
  ·refine⟨⟨o,I.kIn p o hk,hc⟩,λa e=>?_⟩
   cases e
   exact⟨o,I.kIn _ o hk,hd⟩
  ·have z:∃ o,s.heap.get? p=some o/\o.ExactDict:=by
    rcases hk with⟨kvs,hk⟩|⟨kvs,hk⟩
    ·obtain⟨_,_,_,_,o,_,_,e,ex,_⟩:=I.hok p _ hk
     exact⟨o,e,ex⟩
    ·obtain⟨_,_,_,_,o,_,_,e,ex,_⟩:=I.hok p _ hk
     exact⟨o,e,ex⟩
   obtain⟨o,e,ex⟩:=z
   refine⟨⟨o,e,ex.1⟩,λa e2=>?_⟩
   cases e2
   exact⟨o,e,ex.2.1⟩
  ·obtain⟨o,_,_,_,e,ex,_⟩:=I.hok p _ hk
   refine⟨⟨o,e,ex.1⟩,λa e2=>?_⟩
   cases e2
   exact⟨o,e,ex.2.1⟩
 |_=>exact False.elim ty
noncomputable def tBM (K:PySem.W.Frag)(T:String)(r:V->List V->Hp->VK->Prop)(to:TE)(t:TA):TE:=λσ H Q=>to σ H λx H1=>tyV K T x H1/\t σ H1 λxs H2=>r x xs H2 Q
variable {o e:Expr}{es:List Expr}{to:TE}{t:TA}{name:Str}{apos mQ:Pos}{T id:String}{r:V->List V->Hp->VK->Prop}
theorem lQ (pa:PlainAttrs T)(slot:Slot T name id)(hty:typeOf (.builtin id)=pure (.type "method_descriptor"))(hm:MtR X id r)(ho:PE X o to)(ha:PA X (e::es) t)
  (EG:attributeBase o name X.env (eval o X.env)=eval o X.env:=by rfl)
  (HJ:((backTo mQ (starEach (e::es) X.env)).all (λx=> !x.1)&&(backToKw mQ (keywordEach [] X.env)).all (λx=>x.1.isSome)
   && decide ((e::es).length+([]:List Keyword).length+(if([]:List Keyword).isEmpty then 0 else 1)<30))=true:=by rfl)
  (ED:(apos.endLine==mQ.line)=true:=by rfl) (hs:starEach (e::es) X.env=(false,eval e X.env)::starEach es X.env:=by rfl) (AY:(backTo mQ (starEach es X.env)).any (·.1)=false:=by rfl):
  PE X (.Call (.Attribute o name apos) (e::es) [] mQ) (tBM X.K T r to t):=by
 intro pins s σ H Q I h
 refine wpAny_Call_method_late EG HJ ED rfl (thn (ho pins s σ H _ I h) λv s1 ⟨x,H1,I1,r1,ty,q1⟩=>?_)
 obtain⟨h1,h2⟩:=GO I1 r1 ty
 refine⟨T,id,pa,slot,hty,h1,h2,?_⟩
 have hA:=ha mQ pins s1 σ H1 _ I1 q1
 rw[hs]at hA ⊢
 refine Calls.callWith_builtin (by show(false||(backTo mQ (starEach es X.env)).any (·.1))=false;rw[AY]<;>rfl) (Calls.evalArgs_plain ?_)
 exact thn hA λus s2 ⟨vs,H2,I2,r2,q2⟩=>hm pins s2 σ H2 x vs v us Q I2 r1 r2 q2
/- xs.append(e),list.index on a Jf tuple .. are MtR facts of 06m -/
end
noncomputable def MtM (X:Cx)(id:String)(r:V->List V->Hp->VK->Prop):Prop:=
 ∀ (pins:List (Addr×Obj)) (s:Shared) (σ:St) (H:Hp) (x:V) (xs:List V) (v:Value) (us:List Value) (Q:VK),Inv X pins σ H s->RelV x v->Vals xs us->r x xs H Q->
  wpAny (model X.prog X.w) X.A (call (.builtin id) (v::us)) (EP X pins σ Q) X.xe s
theorem Vals.one:∀ {x:V}{us:List Value},Vals [x] us->∃ u,us = [u]/\RelV x u
 |_,_,.cons r .nil=>⟨_,rfl,r⟩
theorem Vals.two {x y:V}{us:List Value}(h:Vals [x,y] us):∃ u v,us = [u,v]/\RelV x u/\RelV y v:=by
 cases h with
 |cons r t=>
  cases t with
  |cons q n=>
   cases n
   exact⟨_,_,rfl,r,q⟩
theorem Vals.reverse {xs:List V}{us:List Value}(h:Vals xs us):Vals xs.reverse us.reverse:=by
 induction h with
 |nil=>exact .nil
 |cons r t ih=>rw[List.reverse_cons,List.reverse_cons];exact Vals.append ih (.cons r .nil)
section
variable {X:Cx}{pins:List (Addr×Obj)}{σ:St}{H:Hp}{s:Shared}{l b:Addr}{xs ys zs:List V}
theorem Inv.Ji {its its':List Value}{n:Nat}{f:Array Value->Array Value}{t':Nat}(I:Inv X pins σ H s)(hH:H l=some (.lst xs))
  (e:s.heap.get? l=some {cls:=.type "list",data:=.seq its.toArray n}) (hf:f its.toArray=its'.toArray) (hv:Vals ys its') (hz:ys.length<=sizeLine):
  Inv X pins σ (upd H l (.lst ys)) {s with heap:=s.heap.update l (Obj.mapSeq f),toks:=t'} :=by
 have q:=PySem.IsL.update e f
 rw[hf]at q
 refine I.write (x:=l) (e:=l) (by rw[hH];exact trivial) (.inl rfl) (λb' u hb hu=>(Heap.get?_update_other s.heap (Obj.mapSeq f) (bX hb)).trans hu) ⟨_,q⟩ ?_
 exact⟨hz,its',_,hv,q⟩
theorem Inv.Hr {its:List Value}{t':Nat}(I:Inv X pins σ H s)(hv:Vals ys its)(hz:ys.length<=sizeLine):
  Inv X pins σ (upd H s.heap.objs.size (.lst ys)) {s with heap:=s.heap.push {cls:=.type "list",data:=.seq its.toArray},toks:=t'} :=
 I.laid (λ_ _ q=>ak _ q) (ai _) ⟨hz,its,0,hv,aR _ rfl⟩
theorem Inv.fresh (I:Inv X pins σ H s):H s.heap.objs.size=none:=I.hok.fresh (ai _)
theorem Inv.CB (I:Inv X pins σ H s)(hH:H l=some (.lst xs)):xs.length<=sizeLine/\∃ (its:List Value) (n:Nat),Vals xs its/\xs.length=its.length/\s.heap.get? l=some {cls:=.type "list",data:=.seq its.toArray n} :=by
 obtain⟨z,its,n,r,e⟩:=I.hok l _ hH
 exact⟨z,its,n,r,r.length,e⟩
end
section
variable {X:Cx}
noncomputable def Fv:V->List V->Hp->VK->Prop:=λx vs H Q=>∃ l xs y,x = .ref l/\vs = [y]/\H l=some (.lst xs)/\xs.length<sizeLine/\Q .non (upd H l (.lst (xs ++ [y])))
theorem kU:MtM X "list.append" Fv:=by
 intro pins s σ H x vs v us Q I rx rv h
 obtain⟨l,xs,y,rfl,rfl,hH,hz,q⟩:=h
 cases rx
 obtain⟨u,rfl,ru⟩:=rv.one
 obtain⟨z,its,n,r,hl,e⟩:=I.CB hH
 refine eC F.slot_list_append ⟨_,e,rfl⟩ F.entry_list_append (F.args_list_append_2 _ _) (PySem.list_append l its.toArray n u (by rw[aE];omega)) ⟨e,?_⟩
 refine⟨.non,_,I.Ji (its':=its ++ [u]) hH e (by simp) (r.append (.cons ru .nil)) ?_,rfl,q⟩
 rw[aU,dF]
 omega
noncomputable def K4:R2:=λx y H Q=>∃ l b xs zs,x = .ref l/\y = .ref b/\H l=some (.lst xs)/\H b=some (.lst zs)/\xs.length+zs.length<=sizeLine/\∀ p,H p=none->Q (.ref p) (upd H p (.lst (xs++zs)))
theorem oo:OpR X (binaryOp .Add) K4:=by
 intro pins s σ H x y v u Q I rx ry h
 obtain⟨l,b,xs,zs,rfl,rfl,hH,hB,hz,q⟩:=h
 cases rx
 cases ry
 obtain⟨z,its,n,r,hl,e⟩:=I.CB hH
 obtain⟨z2,Jl,n2,r2,hl2,e2⟩:=I.CB hB
 refine PySem.P.add_list e e2 ?_ (by rw[aE,aE];omega)
 have ea:its.toArray++Jl.toArray=(its++Jl).toArray:=by simp
 rw[ea]
 exact⟨.ref _,_,I.Hr (t':=s.toks) (r.append r2) (by rw[aU];omega),rfl,q _ I.fresh⟩
end
end L2
namespace Att
open PySem PySem.W PySem.Calls PyProof.Rows
theorem tX {P:Params}{h:Heap} :∀ (ns:List Int) (vs:List Value),WellAll P h vs (ns.map WData.int)->IntsAre vs ns:=by
 intro ns
 induction ns with
 |nil=>
  intro vs w
  rw[List.map_nil]at w
  cases w
  exact .nil
 |cons n ns ih=>
  intro vs w
  rw[bt]at w
  cases w with
  |cons a b=>
   cases a
   exact .cons _ _ (ih _ b)
theorem Cj {l:OpenLaw}{n:Nat}(hn:l.most=some n){P:Params}{h:Heap}{args:List WData}{vals:List Value}
  (FQ:l.row.toRowW.claim.pre args=true) (hwl:WellAll P h vals args):
  ∃ a vs ns,vals = [Value.ref a]/\args = [WData.list (ns.map WData.int)]/\h.get? a=some {cls:=.type "list",data:=.seq vs.toArray} /\IntsAre vs ns/\ns.length<=n:=by
 have hsh:WShape.hasAll [] args [.list .int]=true:=(pre_splitW FQ).1
 have hc:l.pre.holds [] {args:=args} = true:=(pre_splitW FQ).2
 obtain⟨d,r,rfl,h1,h2⟩:=hasAllW_cons hsh
 obtain rfl:=hasAllW_nil h2
 obtain⟨xs,rfl,h3⟩:=hasW_list h1
 obtain⟨ns,rfl⟩:=items_int h3
 have hlen:ns.length<=n:=by
  unfold OpenLaw.pre at hc
  have h4:(WTm.not (.lt (.lit (.int (n:Int))) (.len (.arg 0)))).holds [] {args:=[.list (ns.map .int)]} = true:=by
   have h4:=(holds_andW hc).1
   rw[hn]at h4
   exact h4
  have h5:=condW_of h4 (w_not (w_lt w_lit (w_len_list (w_arg rfl))))
  rw[aa]at h5
  refine Nat.le_of_not_lt λq=>?_
  have q':(n:Int)<((ns.length:Nat):Int):=by omega
  first
   |(rw[eF q']at h5;exact absurd h5 (by decide))
   |(simp at h5;omega)
 cases hwl with
 |cons w1 w2=>
  cases w2
  cases w1 with
  |list ho lJ=>exact⟨_,_,ns,rfl,rfl,ho,tX ns _ lJ,hlen⟩
theorem Cp (l:OpenLaw)(args:List WData):l.row.toRowW.claim.post args (.bool true) args=true:=
 postW_of (r:=l.row.toRowW) (X:=(true==true))
  (show WShape.has [] (.bool true) .bool=true by first |rfl |decide |simp[WShape.has,WShape.arms,WShape.armsAll])
  (show(WTm.eq .res (.lit (.bool true))).value [] {args:=args,res:=some (.bool true),after:=args} = some (.bool (true==true)) from w_eq_bool (w_res rfl) w_lit) rfl
theorem Af {l:OpenLaw}{n:Nat}{q:Program}{loose:List Str}{XP:(Str->Option Value)->Heap->Prop}{YP:World->Heap->Prop}{d:DefRec}
  (hn:l.most=some n) (hdf:d.params.defaults = [])
  (call:∀ (w:World) (s₀ s₁:Shared) (mg mb:Str->Option Value) (fa:Addr) (o:Obj) (pm cd doc:Value) (a:Addr) (vs:List Value) (ns:List Int),
   Ground q loose [] XP w s₀ mg mb s₁.heap->YP w s₁.heap->
   s₁.heap.get? fa=some o->o.data = .func (docDef d.name d.params d.body d.scope pm cd doc)->s₁.heap.CodeRec cd d.name->mg d.name=some (.ref fa)->
   s₁.heap.get? a=some {cls:=.type "list",data:=.seq vs.toArray} ->IntsAre vs ns->ns.length<=n->s₁.gens = #[]->
   codeAny (model l.prog w) callerA (.call (.ref fa) ⟨[.ref a],[]⟩) (λr s'=>r = .ok (.ret (.bool true))/\OldK s₁.heap s'.heap/\s'.os=s₁.os/\AllBare s'.gens) s₁):
  WalkO q loose XP YP l.row.toRowW d [] (λf vs=>PySem.call f vs):=by
 intro w s₀ s₁ mg mb G Y fa o pm cd doc dV kV ho hd hcd hD hmg hg args vals as FQ Sl hrd hwl hlo
 obtain rfl:dV = .none:=Dflts.none hD hdf
 obtain rfl:kV = .none:=Dflts.noKw hD
 obtain⟨a,vs,ns,rfl,rfl,HE,hints,hlen⟩:=Cj hn FQ hwl
 refine enter_call (eP (call w s₀ s₁ mg mb fa o pm cd doc a vs ns G Y ho (fd_plain hd) hcd hmg HE hints hlen hg) λr s' hq=>?_)
 obtain⟨rfl,h2,h3,h4⟩:=hq
 exact⟨.inl ⟨.bool true,.bool true,[],rfl,λ_=>rfl,.bool true,Cp l _,λ_=>⟨List.Pairwise.nil,λ_ hm=>(nomatch hm)⟩⟩,h2,h3,h4⟩
end Att
namespace L2
open PySem PySem.Spec PyProof.Rows
theorem wD:∀ {vs:List Value}{ns:List Int},IntsAre vs ns->Vals (ns.map V.int) vs
 |_,_,.nil=>.nil
 |_,_,.cons n t h=>.cons ⟨t,rfl⟩ (wD h)
noncomputable def Ic (H:Hp):Prop:=∀ b,H b=none\/∃ o xs,H b=some (.frz o (.lst xs))
variable {x:Str}
theorem Eu {P:Program}{w:World}{K:PySem.W.Frag}{mg mb:Str->Option Value}{CX:CXT}{k:Nat}{fa a:Addr}{fd:FuncData}{sp:Sp}{s₁:Shared}{vs:List Value}{ns:List Int}
  (KX:K.In s₁.heap) (hns:s₁.heap.Ns mainGlobals mg) (hb:s₁.heap.Ns builtinsNs mb) (hbb:∀ x:Str,x≠ "__name__" ->mb x=bootBuiltins x) (ON:s₁.heap.NoLimit) (hg:s₁.gens = #[])
  (ha:s₁.heap.get? a=some {cls:=.type "list",data:=.seq vs.toArray}) (hi:IntsAre vs ns) (hl:ns.length<=sizeLine) (hr:lE k callerA)
  (F:∀ base:Heap,K.In base->base.Ns mainGlobals mg->fm P w K mg base CX k fa fd [x] sp) (JB:∀ (s:Shared) (u:Value),BindsTo s fd ⟨[u],[]⟩ [(x,u)])
  (hsp:∀ H:Hp,Ic H->SqL K H a (ns.map V.int)->sp [.ref a] H (λv _=>v = .bl true) λ_ _ _=>False)
  (hCX:∀ H e s',CX [] H s₁ (λ_ _ _=>False) e s'->False):
  codeAny (model P w) callerA (.call (.ref fa) ⟨[.ref a],[]⟩) (λr s'=>r = .ok (.ret (.bool true))/\OldK s₁.heap s'.heap/\s'.os=s₁.os/\AllBare s'.gens) s₁:=by
 have rv:=wD hi
 have NL:=hi.length
 have core:∀ H:Hp,Ic H->SqL K H a (ns.map V.int)->HOk P w H s₁.heap->(∀ b,H b≠none->b=a)->(H a≠none->K.lookup a=none)->
   codeAny (model P w) callerA (.call (.ref fa) ⟨[.ref a],[]⟩) (λr s'=>r = .ok (.ret (.bool true))/\OldK s₁.heap s'.heap/\s'.os=s₁.os/\AllBare s'.gens) s₁:=by
  intro H hO hS hok hA hK
  have BU:∀ {b:Addr}{o:Obj},s₁.heap.get? b=some o->H b=none->(yo s₁.heap H).get? b=some o:=λe n=>EE e n
  have noA:∀ {b:Addr}{o:Obj}{es:Array DictEntry}{ep:Nat},s₁.heap.get? b=some o->o.data = .dict es ep->H b=none:=λ{b o es ep} e d=>by
   cases q:H b with
   |none=>rfl
   |some u=>
    have e':b=a:=hA b (by rw[q];simp)
    subst e'
    rw[ha]at e;cases e
    have d':Data.seq vs.toArray _=Data.dict es ep:=d
    cases d'
  have nsK:∀ {b:Addr}{m:Str->Option Value},s₁.heap.Ns b m->(yo s₁.heap H).Ns b m:=λ{b m} ⟨o,es,ep,e,d,r⟩=>⟨o,es,ep,BU e (noA e d),d,r⟩
  have hKb:K.In (yo s₁.heap H):=λb o e=>BU (KX b o e) (by
   cases q:H b with
   |none=>rfl
   |some u=>
    have e':b=a:=hA b (by rw[q];simp)
    subst e'
    rw[hK (by rw[q];simp)]at e;cases e)
  have hM:Mod K mg (yo s₁.heap H):=⟨hKb,nsK hns,⟨mb,nsK hb,hbb⟩,let ⟨mc,h1,h2⟩:=ON;⟨mc,nsK h1,h2⟩⟩
  have e0:Ba P w K mg (yo s₁.heap H) callerA [] s₁ H:=⟨rfl,hM,λb o e=>FE e,Nat.le_of_eq (CM _ _),trivial,λb hb=>absurd (show b∈([]:List Addr) from hb) (by simp),hok,.of_eq hg⟩
  refine eP ((F _ hKb (nsK hns)).run callerA [] s₁ H ⟨[.ref a],[]⟩ [.ref a] [.ref a] _ _ hr e0 (JB s₁ (.ref a)) (.cons rfl .nil) (hsp H hO hS)) λr s' h=>?_
  cases r with
  |error e=>exact(hCX H e s' h).elim
  |ok fl=>
   cases fl with
   |next=>exact False.elim h
   |brk=>exact False.elim h
   |cont=>exact False.elim h
   |ret u=>
    obtain⟨v,H',os,bare,un,OI,r',q⟩:=h
    have q':v = .bl true:=q
    subst q'
    obtain rfl:u=Value.bool true:=r'
    refine⟨rfl,OldK.of_keep λb o e=>?_,os,bare⟩
    cases q:H b with
    |none=>exact un.keep b o e q (by intro z;exact absurd (show b∈([]:List Addr) from z) (by simp)) (by simp)
    |some u=>
     rcases hO b with z |⟨ob,xs,z⟩
     ·rw[q]at z;cases z
     ·have z2:=un.qk b ob _ z
      obtain⟨e1,_⟩:=hok b _ z
      obtain⟨e2,_⟩:=OI b _ z2
      rw[e]at e1;cases e1
      exact e2
 cases hk:K.lookup a with
 |some o=>
  have e:=KX a o hk
  rw[ha]at e
  cases e
  refine core (λ_=>none) (λ_=>.inl rfl) (.inr ⟨_,vs.toArray,_,hk,rfl,rfl,rfl,by rw[aE,NL];exact hl,by simpa using rv⟩) (λb u z=>by have z':(none:Option HO)=some u:=z;cases z') (λb z=>absurd rfl z) λz=>absurd rfl z
 |none=>
  refine core (λb=>if b=a then some (.frz {cls:=.type "list",data:=.seq vs.toArray} (.lst (ns.map V.int)))else none) (λb=>?_) (.inl (.inr ⟨{cls:=.type "list",data:=.seq vs.toArray},aA rfl⟩)) (λb u z=>?_) (λb z=>?_) λ_=>hk
  ·by_cases hb:b=a
   ·exact .inr ⟨_,_,aA hb⟩
   ·exact .inl (au hb)
  ·by_cases hb:b=a
   ·have z':=(aA hb).symm.trans z
    cases z'
    subst hb
    exact⟨ha,by rw[aa];exact hl,vs,_,rv,ha⟩
   ·have z':=(au hb).symm.trans z
    cases z'
  ·by_cases hb:b=a
   ·exact hb
   ·exact absurd (au hb) z
noncomputable abbrev KOf {K:PySem.W.Frag}{h:Heap}(_:K.In h):PySem.W.Frag:=K
theorem Fd {l:PySem.W.OpenLaw}{n k:Nat}{q:Program}{loose:List Str}{XP:(Str->Option Value)->Heap->Prop}{YP:World->Heap->Prop}{d:DefRec}{K:Params->PySem.W.Frag}{CX:World->CXT}{sp:World->Sp}
  (hn:l.most=some n) (hn2:n<=sizeLine) (hdf:d.params.defaults = []) (hr:lE k callerA)
  (hY:∀ (w:World) (h:Heap),YP w h->(K w.params).In h)
  (F:∀ (w:World) (mg:Str->Option Value) (fa:Addr) (h:Heap),(K w.params).In h->h.Ns mainGlobals mg->mg d.name=some (.ref fa)->
   ∃ fd:FuncData,(∀ (s:Shared) (u:Value),BindsTo s fd ⟨[u],[]⟩ [(x,u)])/\
    ∀ base:Heap,(K w.params).In base->base.Ns mainGlobals mg->fm l.prog w (K w.params) mg base (CX w) k fa fd [x] (sp w))
  (hsp:∀ (w:World) (H:Hp) (a:Addr) (ns:List Int),ns.length<=n->Ic H->SqL (K w.params) H a (ns.map V.int)->sp w [.ref a] H (λv _=>v = .bl true) λ_ _ _=>False)
  (hCX:∀ (w:World) (H:Hp) (s:Shared) (e:Value) (s':Shared),CX w [] H s (λ_ _ _=>False) e s'->False):
  PySem.W.WalkO q loose XP YP l.row.toRowW d [] (λf vs=>PySem.call f vs):=by
 refine Att.Af hn hdf λw s₀ s₁ mg mb fa o pm cd doc a vs ns G Y ho hd hcd hmg HE hints hlen hg=>?_
 have KX:=hY w _ Y
 obtain⟨fd,hb,hF⟩:=F w mg fa _ KX G.T.g hmg
 exact Eu KX G.T.g G.T.b G.T.builtins G.T.nolimit hg HE hints (bq hlen hn2) hr hF hb (λH hO hS=>hsp w H a ns hlen hO hS) λH e s'=>hCX w H s₁ e s'
noncomputable def inClass (s:Stmt)(j:Nat):Stmt:=match s with
 |.ClassDef _ _ _ body _ _ _ _ _ _ _=>body.getD j (.Pass ⟨0,0,0,0⟩)
 |_=>.Pass ⟨0,0,0,0⟩
noncomputable def lu (s:Stmt):Arguments:=match s with
 |.FunctionDef _ a _ _ _ _ _ _ _ _=>a
 |_=>{posonlyargs:=[],args:=[],vararg:=none,kwonlyargs:=[],kw_defaults:=[],kwarg:=none,defaults:=[]}
noncomputable def jR (s:Stmt):List Stmt:=match s with
 |.FunctionDef _ _ b _ _ _ _ _ _ _=>b
 |_=>[]
noncomputable def fh (s:Stmt):Scope:=match s with
 |.FunctionDef _ _ _ _ _ _ sc _ _ _=>sc
 |_=>{kind:=.function,names:=[],isGenerator:=false,isCoroutine:=false}
noncomputable abbrev CX0:CXT:=λ_ _ _ _ _ _=>False
noncomputable abbrev E0:XK:=λ_ _ _=>False
theorem fM {X:Cx} :Passes CX0 X E0:=λ_ _ _ _ _ _ _ h=>h.elim
structure Fun (K:PySem.W.Frag)(x qual:Str)(st:Stmt)(f:Addr)(fd:FuncData):Prop where
 ex:∃ (oc:Value) (od:Option Addr) (kV doc pm:Value) (an:Option Addr) (cdv ct:Value) (osl:Array (Option Value)),
  fd=PySem.W.fnOf x qual (lu st) (jR st) (fh st) .none kV doc pm an cdv ct/\K.lookup f=some ⟨oc,od,.func fd,osl⟩/\PySem.W.codeIn K cdv qual=true
 kp:PySem.W.keepIn K (.ref f)=true
section
variable {P:Program}{w:World}{K:PySem.W.Frag}{mg:Str->Option Value}{base:Heap}
theorem Fun.ok {qual:Str}{st:Stmt}{f:Addr}{fd:FuncData}{N ps:List Str}{k:Nat}{sp:Sp}(F:Fun K x qual st f fd)(S:fC N ps (fh st))(len:∀ vs H Q E,sp vs H Q E->vs.length=ps.length)
  (zT:∀ (cdv:Value) (A:Around) (outer:List Env) (s:Shared) (H:Hp) (vs:List V) (Q:VK) (E:XK),lE k (A.deeper (envOfC qual (fh st) s.heap.objs.size f cdv))->sp vs H Q E->
   ∃ t,PSs (wt CX0 P w K mg base N qual (fh st) f cdv A outer s H E).nox (jR st) t/\t {nx:=λ_ H'=>Q .non H',rt:=Q} (start N vs) H):fm P w K mg base CX0 (k+1) f fd ps sp:=by
 obtain⟨oc,od,kV,doc,pm,an,cdv,ct,osl,rfl,lk,hcd⟩:=F.ex
 refine GC lk hcd S len λA outer s H vs Q E hr hsp=>?_
 obtain⟨t,h,q⟩:=zT cdv A outer s H vs Q E hr hsp
 exact⟨t,h.nox,q⟩
theorem Fun.binds {qual:Str}{st:Stmt}{f:Addr}{fd:FuncData}{ps:List Str}(F:Fun K x qual st f fd)
  (h:∀ (kV doc pm:Value) (an:Option Addr) (cdv ct:Value) (us:List Value),us.length=ps.length->bindArgs (PySem.W.fnOf x qual (lu st) (jR st) (fh st) .none kV doc pm an cdv ct) ⟨us,[]⟩=pure (ps.zip us)):Binds K fd ps []:=by
 obtain⟨oc,od,kV,doc,pm,an,cdv,ct,osl,rfl,lk,hcd⟩:=F.ex
 exact .all (h kV doc pm an cdv ct)
theorem su {qual:Str}{st:Stmt}{f:Addr}{oc:Value}{od an:Option Addr}{osl:Array (Option Value)}{kV doc pm cdv ct:Value}(l:K.lookup f=some ⟨oc,od,.func (PySem.W.fnOf x qual (lu st) (jR st) (fh st) .none kV doc pm an cdv ct),osl⟩)
  (c:PySem.W.codeIn K cdv qual=true) (k:PySem.W.keepIn K (.ref f)=true):Fun K x qual st f (PySem.W.fnOf x qual (lu st) (jR st) (fh st) .none kV doc pm an cdv ct):=⟨⟨oc,od,kV,doc,pm,an,cdv,ct,osl,rfl,l,c⟩,k⟩
end
theorem Gw {A:Around}{k:Nat}(hr:lE k A):A.units+1<cLine:=dh (Nat.add_le_add_left (by decide:1<=64) _) hr.units
section
variable {X:Cx}
theorem pv (i:Nat){pos:Pos}(hN:X.N[i]? = some x:=by rfl)(hv:Vis X.env.scope x:=by first |exact Or.inl rfl |exact Or.inr (Or.inl rfl)|exact Or.inr (Or.inr rfl))(hd:(x==("__debug__" :Str))=false:=by decide)
  (hcd:(x==("__classdict__" :Str))=false:=by decide):PE X (.Name x pos) (Cf i):=DX hN hv hd hcd
end
theorem rk {A B:Prop}(h:B):if false=true then A else B:=by
 rw[au aC]
 exact h
theorem tW {A B:Prop}(h:A):if true=true then A else B:=by
 rw[aA rfl]
 exact h
theorem fY {c A B:Prop} [Decidable c] (h1:c->A)(h2:¬c->B):if c then A else B:=by
 by_cases h:c
 ·rw[aA h]
  exact h1 h
 ·rw[au h]
  exact h2 h
noncomputable def fk (H H':Hp):Prop:=∀ b o,H b=some o->H' b=some o
theorem fk.refl (H:Hp):fk H H:=λ_ _ h=>h
theorem fk.trans {H H1 H2:Hp}(a:fk H H1)(b:fk H1 H2):fk H H2:=λc o h=>b c o (a c o h)
theorem fk.free {H H':Hp}(e:fk H H'){l:Addr}(h:H' l=Option.none):H l=Option.none:=by
 cases q:H l with
 |none=>rfl
 |some o=>
  rw[e l o q]at h
  cases h
theorem fk.seq {K:PySem.W.Frag}{H H':Hp}{a:Addr}{xs:List V}(e:fk H H')(h:SqL K H a xs):SqL K H' a xs:=by
 rcases h with(h |⟨o,h⟩)|h
 ·exact .inl (.inl (e _ _ h))
 ·exact .inl (.inr ⟨o,e _ _ h⟩)
 ·exact .inr h
theorem zQ {P:Program}{w:World}{k:Key}{u:Value}(r:RelV (kV k) u):(iu P w).is k u=true:=by
 cases k with
 |inl i=>obtain⟨t,e⟩:=(show ∃ t,u=Value.int i t from r);subst e;exact zG P w i t
 |inr x=>obtain⟨t,e⟩:=(show ∃ t,u=Value.str x t from r);subst e;exact zF P w x t
theorem w5 {P:Program}{w:World} :∀ {ks:List Key}{us:List Value},Vals (ks.map kV) us->ItemsAre (iu P w) ks us
 |[],_,r=>by rw[List.map_nil]at r;cases r;exact .nil
 |k::ks,_,r=>by
  rw[bt]at r
  cases r with
  |cons h t=>exact .cons (zQ h) (w5 t)
noncomputable abbrev KT (H:Hp):List (List Key×V)->List (List Key×Addr×Value)->Prop:=Paired λp q=>p.1=q.1/\H q.2.1=some (.tup (p.1.map kV))/\RelV p.2 q.2.2
noncomputable def JP (i:Expr):Prop:=∀ ov iv,subscripted i false ov iv=operate [ov,iv] (getItem ov iv)
theorem Fi {prog:Program}{w:World}{A:Around}{E:Value->Shared->Prop}{s:Shared}{env:Env}{value slice:Expr}{pos:Pos}{T id:String}{Q:Value->Shared->Prop}
  (hl:typeLookup (.type T) "__getitem__" = pure (some (.builtin id))) (hs:JP slice)
  (h:wpAny (model prog w) A (eval value env) (λo s₁=>wpAny (model prog w) A (eval slice env) (λi s₂=>s₂.TypeIs o T/\wpAny (model prog w) A (getItem o i) Q E s₂) E s₁) E s):
  wpAny (model prog w) A (eval (.Subscript value slice pos) env) Q E s:=by
 refine Subscript_ (aY h (λo s₁ h₁=>aY h₁ (λi s₂ h₂=>?_) λ_ _ x=>x) λ_ _ x=>x)
 obtain⟨hT,h₂⟩:=h₂
 unfold subscriptTail
 refine ae ?_
 rw[getitemInPython_of_ne hT.not_modules]
 refine ae (eI hT hl ?_)
 have fin:wpAny (model prog w) A (subscripted slice false o i) (λr s₃=>wpAny (model prog w) A (letTemporaryGo value o r >>= λ_=>pure r) Q E s₃) E s₂:=by
  rw[hs o i]
  exact wpAny_operating (aY h₂ (λr s₃ h₃=>ae (wpAny_letTemporaryGo (aj h₃))) λ_ _ x=>x)
 first
  |exact aj (ae fin)
  |exact ae (aj (ae fin))
  |exact ae fin
noncomputable abbrev VV:List (V×V)->List (Value×Value)->Prop:=Paired λp q=>RelV p.1 q.1/\RelV p.2 q.2
end L2
namespace TL
open PySem
theorem vD {α β:Type}{f:α->β->Sem (ForInStep β)}(P:List α->β->Prop)
  (step:∀ x l c,P (x::l) c->∃ c',f x c=pure (.yield c')/\P l c'):∀ (l:List α) (c:β),P l c->∃ c',forIn l c f=pure c'/\P [] c'
 |[],c,h=>⟨c,rfl,h⟩
 |x::l,c,h=>by
  obtain⟨c1,e,h1⟩:=step x l c h
  obtain⟨c2,e2,h2⟩:=vD P step l c1 h1
  refine⟨c2,?_,h2⟩
  rw[List.forIn_cons,e,pure_bind]
  exact e2
theorem oz {scope:Scope}{env:Env}(h:∀ y∈scope.names,y.2 = .free->∃ c,env.cells.lookup y.1=some c):
  ∃ cl,closureFor scope env=pure cl/\(∀ x c,cl.lookup x=some c->env.cells.lookup x=some c)/\(∀ y∈scope.names,y.2 = .free->∃ c,cl.lookup y.1=some c):=by
 let P:List (Str×NameKind)->List (Str×Addr)->Prop:=λl c=>(∀ y∈l,y.2 = .free->∃ c,env.cells.lookup y.1=some c)/\(∀ x a,c.lookup x=some a->env.cells.lookup x=some a)/\
  (∀ y∈scope.names,y.2 = .free->y∈l\/∃ a,c.lookup y.1=some a)
 simp only[closureFor]
 obtain⟨cl,e,_,h2,h3⟩:=vD (f:=λ(x:Str×NameKind) (r:List (Str×Addr))=>if(x.2==NameKind.free)=true then cellOf env x.1 >>= λc=>pure (ForInStep.yield ((x.1,c)::r))else pure (ForInStep.yield r)) P (by
  rintro⟨n,k⟩ l c ⟨p1,p2,p3⟩
  by_cases hk:k = .free
  ·subst hk
   obtain⟨a,ha⟩:=p1 _ az rfl
   refine⟨(n,a)::c,?_,λy hy=>p1 y (ar _ hy),λx b hb=>?_,λy hy hf=>?_⟩
   ·have ha':env.cells.lookup n=some a:=ha
    simp[cellOf,ha']
   ·rw[bG]at hb
    by_cases hx:(x==n)=true
    ·rw[hx]at hb
     have e1:x=n:=by simpa using hx
     subst e1
     cases hb
     exact ha
    ·have hx':(x==n)=false:=by simpa using hx
     rw[hx']at hb
     exact p2 x b hb
   ·by_cases hx:(y.1==n)=true
    ·exact .inr ⟨a,by rw[bG,hx]⟩
    ·have hx':(y.1==n)=false:=by simpa using hx
     rcases p3 y hy hf with q |⟨b,q⟩
     ·rcases aI.mp q with q |q
      ·exact absurd (by rw[q];simp) hx
      ·exact .inl q
     ·exact .inr ⟨b,by rw[bG,hx'];exact q⟩
  ·refine⟨c,?_,λy hy=>p1 y (ar _ hy),p2,λy hy hf=>?_⟩
   ·have:(k==NameKind.free)=false:=by simpa using hk
    simp[this]
   ·rcases p3 y hy hf with q |q
    ·rcases aI.mp q with q |q
     ·subst q;exact absurd hf hk
     ·exact .inl q
    ·exact .inr q) scope.names [] ⟨h,λx a hx=>by simp at hx,λy hy _=>.inl hy⟩
 refine⟨cl,?_,h2,λy hy hf=>?_⟩
 ·refine Eq.trans ?_ (cg (λt:Sem (List (Str×Addr))=>t >>= λr=>pure r) e)
  rfl
 ·rcases h3 y hy hf with q |q
  ·cases q
  ·exact q
theorem lR {env:Env} :∀ {names:List (Str×NameKind)}{x:Str},names.lookup x=some .free->
  (names.map λ(n,k)=>if(k==NameKind.free&&env.scope.kind == .function&&env.kindOf n==some .cell)then(n,NameKind.cell)else(n,k)).lookup x=some .cell\/
  (names.map λ(n,k)=>if(k==NameKind.free&&env.scope.kind == .function&&env.kindOf n==some .cell)then(n,NameKind.cell)else(n,k)).lookup x=some .free
 |[],_,h=>by simp at h
 |(n,k)::r,x,h=>by
  have ih:=@lR env r x
  show List.lookup x ((if(k==NameKind.free&&env.scope.kind == .function&&env.kindOf n==some .cell)=true then(n,NameKind.cell)else(n,k))::_)=_\/List.lookup x ((if(k==NameKind.free&&env.scope.kind == .function&&env.kindOf n==some .cell)=true then(n,NameKind.cell)else(n,k))::_)=_
  cases hx:x==n with
  |true=>
   simp only[bG,hx]at h
   cases h
   by_cases hc:(NameKind.free==NameKind.free&&env.scope.kind == .function&&env.kindOf n==some .cell)=true
   ·rw[aA hc];left;simp[bG,hx]
   ·rw[au hc];right;simp[bG,hx]
  |false=>
   simp only[bG,hx]at h
   by_cases hc:(k==NameKind.free&&env.scope.kind == .function&&env.kindOf n==some .cell)=true
   ·rw[aA hc];simp only[bG,hx];exact ih h
   ·rw[au hc];simp only[bG,hx];exact ih h
theorem lB {env:Env} :∀ {names:List (Str×NameKind)}{x:Str},(∀ y∈names,y.2≠ .cell)->
  ((names.map λ(n,k)=>if(k==NameKind.free&&env.scope.kind == .function&&env.kindOf n==some .cell)then(n,NameKind.cell)else(n,k)).lookup x=some .cell\/
  (names.map λ(n,k)=>if(k==NameKind.free&&env.scope.kind == .function&&env.kindOf n==some .cell)then(n,NameKind.cell)else(n,k)).lookup x=some .free)->∃ y∈names,y.1=x/\y.2 = .free
 |[],_,_,h=>by simp at h
 |(n,k)::r,x,hn,h=>by
  have ih:=@lB env r x (λy hy=>hn y (ar _ hy))
  change List.lookup x ((if(k==NameKind.free&&env.scope.kind == .function&&env.kindOf n==some .cell)=true then(n,NameKind.cell)else(n,k))::_)=_\/List.lookup x ((if(k==NameKind.free&&env.scope.kind == .function&&env.kindOf n==some .cell)=true then(n,NameKind.cell)else(n,k))::_)=_ at h
  cases hx:x==n with
  |true=>
   have e:x=n:=by simpa using hx
   by_cases hc:(k==NameKind.free&&env.scope.kind == .function&&env.kindOf n==some .cell)=true
   ·have hk:k = .free:=by
     simp only[cM,cO]at hc
     exact hc.1.1
    exact⟨(n,k),az,e.symm,hk⟩
   ·rw[au hc]at h
    simp only[bG,hx]at h
    rcases h with h |h
    ·exact absurd (bx h) (hn (n,k) az)
    ·exact⟨(n,k),az,e.symm,bx h⟩
  |false=>
   have h':(r.map λ(n,k)=>if(k==NameKind.free&&env.scope.kind == .function&&env.kindOf n==some .cell)then(n,NameKind.cell)else(n,k)).lookup x=some .cell\/
     (r.map λ(n,k)=>if(k==NameKind.free&&env.scope.kind == .function&&env.kindOf n==some .cell)then(n,NameKind.cell)else(n,k)).lookup x=some .free:=by
    by_cases hc:(k==NameKind.free&&env.scope.kind == .function&&env.kindOf n==some .cell)=true
    ·rw[aA hc]at h;simpa only[bG,hx]using h
    ·rw[au hc]at h;simpa only[bG,hx]using h
   obtain⟨y,hy,e⟩:=ih h'
   exact⟨y,ar _ hy,e⟩
section
variable {prog:Program}{w:World}{A:Around}{R:Result->Shared->Prop}{s:Shared}
noncomputable abbrev t6 (ifs:List Expr)(env:Env):Sem Bool:=forIn ifs true λc r=>if r=true then do let ok <-isTrue c env (eval c env);pure (ForInStep.yield ok)else pure (ForInStep.yield r)
theorem Ab {elt target iter:Expr}{ifs:List Expr}{scope:Scope}{pos:Pos}{it acc:Value}{env:Env}(I:Nat->Shared->Prop)
  (turn:∀ n s,I n s->wpAny (model prog w) A (pyNext it) (λr s₁=>match r with
   |none=>R (.ok .next) s₁
   |some v=>wpAny (model prog w) A (letOwnedTupleGo target it v) (λ_ s₀=>wpAny (model prog w) A (assign target env v) (λ_ s₂=>
     wpAny (model prog w) A (t6 ifs env) (λok s₃=>
      if ok=true then wpAny (model prog w) A (eval elt env) (λx s₄=>
       wpAny (model prog w) A (call (.builtin "list.append") [acc,x]) (λ_ s₅=>∃ m,m<n/\I m s₅) (λ_ _=>False) s₄) (λ_ _=>False) s₃
      else ∃ m,m<n/\I m s₃) (λ_ _=>False) s₂) (λ_ _=>False) s₀) (λ_ _=>False) s₁) (λ_ _=>False) s)
  (n:Nat) (h:I n s):
  codeAny (model prog w) A (.compLoop (.ListComp elt [⟨target,iter,ifs,0⟩] scope pos) 0 it acc env) R s:=by
 refine codeAny_loop rfl I (λn s hI=>?_) n h
 show wpAny _ A ((compTurn (.ListComp elt [⟨target,iter,ifs,0⟩] scope pos) 0 it acc env).onRaise (λx=>do noteFrame x env;theTreesLotGoes x)) _ _ s
 refine wpAny_noted ?_
 rw[compTurn_list]
 refine ae (cm (ae (aY (turn n s hI) (λr s₁ h₁=>?_) λ_ _ h'=>h'.elim)))
 cases r with
 |none=>exact aj h₁
 |some v=>
  refine ae (aY h₁ (λ_ s₀ h₀=>?_) λ_ _ h'=>h'.elim)
  refine ae (aY h₀ (λ_ s₂ h₂=>ae (aY h₂ (λok s₃ h₃=>?_) λ_ _ h'=>h'.elim)) λ_ _ h'=>h'.elim)
  cases ok with
  |false=>exact aj ⟨rfl,h₃⟩
  |true=>
   exact ae (ae (aY h₃ (λx s₄ h₄=>ae (aY h₄ (λ_ s₅ h₅=>aj (aj ⟨rfl,h₅⟩)) λ_ _ h'=>h'.elim)) λ_ _ h'=>h'.elim))
theorem yt (elt target iter:Expr)(ifs:List Expr)(scope:Scope)(pos:Pos)(it acc:Value)(env:Env):
  compTurn (.SetComp elt [⟨target,iter,ifs,0⟩] scope pos) 0 it acc env=(do
   standAt iter.pos
   match <-pyNext it with
   |none=>pure (.done .next)
   |some v=>
    letOwnedTupleGo target it v
    assign target env v
    let mut ok:=true
    for c in ifs do
     if ok then ok <-isTrue c env (eval c env)
    if ok then
     (do let v <-eval elt env;standAt elt.pos;let _ <-call (.builtin "set.add") [acc,v])
    again (.compLoop (.SetComp elt [⟨target,iter,ifs,0⟩] scope pos) 0 it acc env)):=by rfl
theorem yv {elt target iter:Expr}{ifs:List Expr}{scope:Scope}{pos:Pos}{it acc:Value}{env:Env}(I:Nat->Shared->Prop)
  (turn:∀ n s,I n s->wpAny (model prog w) A (pyNext it) (λr s₁=>match r with
   |none=>R (.ok .next) s₁
   |some v=>wpAny (model prog w) A (letOwnedTupleGo target it v) (λ_ s₀=>wpAny (model prog w) A (assign target env v) (λ_ s₂=>
     wpAny (model prog w) A (t6 ifs env) (λok s₃=>
      if ok=true then wpAny (model prog w) A (eval elt env) (λx s₄=>
       wpAny (model prog w) A (call (.builtin "set.add") [acc,x]) (λ_ s₅=>∃ m,m<n/\I m s₅) (λ_ _=>False) s₄) (λ_ _=>False) s₃
      else ∃ m,m<n/\I m s₃) (λ_ _=>False) s₂) (λ_ _=>False) s₀) (λ_ _=>False) s₁) (λ_ _=>False) s)
  (n:Nat) (h:I n s):
  codeAny (model prog w) A (.compLoop (.SetComp elt [⟨target,iter,ifs,0⟩] scope pos) 0 it acc env) R s:=by
 refine codeAny_loop rfl I (λn s hI=>?_) n h
 show wpAny _ A ((compTurn (.SetComp elt [⟨target,iter,ifs,0⟩] scope pos) 0 it acc env).onRaise (λx=>do noteFrame x env;theTreesLotGoes x)) _ _ s
 refine wpAny_noted ?_
 rw[yt]
 refine ae (cm (ae (aY (turn n s hI) (λr s₁ h₁=>?_) λ_ _ h'=>h'.elim)))
 cases r with
 |none=>exact aj h₁
 |some v=>
  refine ae (aY h₁ (λ_ s₀ h₀=>?_) λ_ _ h'=>h'.elim)
  refine ae (aY h₀ (λ_ s₂ h₂=>ae (aY h₂ (λok s₃ h₃=>?_) λ_ _ h'=>h'.elim)) λ_ _ h'=>h'.elim)
  cases ok with
  |false=>exact aj ⟨rfl,h₃⟩
  |true=>
   exact ae (ae (aY h₃ (λx s₄ h₄=>ae (cm (ae (aY h₄ (λ_ s₅ h₅=>aj (aj ⟨rfl,h₅⟩)) λ_ _ h'=>h'.elim)))) λ_ _ h'=>h'.elim))
theorem wu {elt target iter ifs rest scope pos it acc env}
  (h0:codeAny (model prog w) A (.compLoop (.SetComp elt (⟨target,iter,ifs,0⟩::rest) scope pos) 0 it acc env) R s)
  (h:wpAny (model prog w) A (pyIter it) (λit' s'=>codeAny (model prog w) A (.compLoop (.SetComp elt (⟨target,iter,ifs,0⟩::rest) scope pos) 0 it' acc env) R s')
   (notedBy (model prog w) A env λx s'=>R (.error x) s') s):
  codeAny (model prog w) A (.compStart (.SetComp elt (⟨target,iter,ifs,0⟩::rest) scope pos) 0 it acc env) R s:=by
 refine codeAny_of_tree ?_
 show wpAny _ _ ((compStart (.SetComp elt (⟨target,iter,ifs,0⟩::rest) scope pos) 0 it acc env).onRaise (λx=>do noteFrame x env;standAt theWindowsPlace)) _ _ s
 refine wpAny_notedAt ?_
 unfold compStart
 show wpAny _ _ (ask >>= _) _ _ s
 refine ae (wpAny_askSetting (wpAny_ite ?_))
 split
 ·first
   |exact ae (aj (aj (And.intro rfl h0)))
   |exact aj (And.intro rfl h0)
 ·first
   |exact ae (eB (ae (cm (ae (aY h (λit' s' h'=>aj (And.intro rfl h')) λ_ _ x=>x)))))
   |(refine ae (eB ?_);show wpAny _ _ (standAt iter.pos >>= _) _ _ s;exact ae (cm (ae (aY h (λit' s' h'=>aj (And.intro rfl h')) λ_ _ x=>x))))
end
open PyProof.Rows
noncomputable def oth (e:Int):Int:=e+1-2*(e%2)
theorem E7 (x:Int):Builtin.bitXor x 1=oth x:=by
 rw[bitXor_and,bitAnd_m1];unfold oth;omega
theorem Bv (e:Int):oth (oth e)=e:=by unfold oth;omega
theorem D9 (e:Int):oth e/2=e/2:=by unfold oth;omega
end TL
set_option maxHeartbeats 4000000
namespace TL
open PySem PySem.Spec PyProof.Rows L2
noncomputable abbrev St:=L2.St
noncomputable def gK (X:Cx)(scope:Scope)(cl:List (Str×Addr))(N:List Str)(fp:List Addr)(s3:Shared)(H3:Hp):Cx where
 prog:=X.prog
 w:=X.w
 K:=X.K
 mg:=X.mg
 base:=X.base
 A:=X.A
 N:=N
 s₀:=s3
 H₀:=H3
 env:=compEnvC scope cl s3.heap.objs.size X.env
 outer:=X.stack
 stack:=X.stack
 ex:=fp
 fn:=λ_=>false
 calm:=X.calm
 pn:=[]
 xe:=λ_ _=>False
noncomputable def GI (NX:List Str)(scope:Scope)(N:List Str)(cap:List (Option Nat)):Bool:=
 (N.zip cap).all λp=>match p.2 with
  |none=>true
  |some j=>decide (NX[j]? = some p.1)&&decide (scope.names.lookup p.1=some .free)
structure gq (scX:Scope)(NX:List Str)(scope:Scope)(N:List Str)(own:Nat)(cap:List (Option Nat)):Prop where
 kind:scope.kind = .function
 yb:∀ y∈scope.names,y.2≠ .cell
 loc:∀ y∈scope.names,y.2 = .local->scope.names.lookup y.1=some .local
 fre:∀ y∈scope.names,y.2 = .free->scX.names.lookup y.1=some .cell\/scX.names.lookup y.1=some .free
 len:cap.length=N.length
 Ro:GI NX scope N cap=true
 LQ:(cap.take own).all (·.isNone)=true
 nd:N.Nodup
noncomputable def jh (cap:List (Option Nat))(σ:St):St:=cap.map λo=>o.bind λj=>(σ[j]?).bind id
variable {cap:List (Option Nat)}
theorem CZ {σ:St} :(jh cap σ).length=cap.length:=by simp[jh]
theorem qe {σ:St}{i:Nat}{v:V}(h:(jh cap σ)[i]? = some (some v)):∃ j,cap[i]? = some (some j)/\σ[j]? = some (some v):=by
 unfold jh at h
 rw[aq]at h
 cases e:cap[i]? with
 |none=>rw[e]at h;cases h
 |some o=>
  rw[e]at h
  cases o with
  |none=>cases h
  |some j=>
   refine⟨j,rfl,?_⟩
   have h':(σ[j]?).bind id=some v:=by simpa using h
   cases q:σ[j]? with
   |none=>rw[q]at h';cases h'
   |some z=>rw[q]at h';exact cg some h'
theorem gq.at {scX:Scope}{NX:List Str}{scope:Scope}{N:List Str}{own:Nat}{cap:List (Option Nat)}(C:gq scX NX scope N own cap){i j:Nat}{x:Str}(h1:N[i]? = some x)(h2:cap[i]? = some (some j)):
  NX[j]? = some x/\scope.names.lookup x=some .free:=by
 have h:=C.Ro
 unfold GI at h
 have hm:(x,some j)∈N.zip cap:=by
  refine cQ.mpr ⟨i,?_⟩
  rw[eM]
  exact⟨h1,h2⟩
 have:=dU.mp h _ hm
 simpa using this
theorem gq.uK {scX:Scope}{NX:List Str}{scope:Scope}{N:List Str}{own:Nat}(C:gq scX NX scope N own cap){i j:Nat}(hi:i<own)(h:cap[i]? = some (some j)):False:=by
 have hm:some j∈cap.take own:=by
  refine cQ.mpr ⟨i,?_⟩
  rw[cH hi]
  exact h
 have:=dU.mp C.LQ _ hm
 cases this
section
variable {X:Cx}{pins:List (Addr×Obj)}{σ:St}{H H3:Hp}{s s3:Shared}{scope:Scope}{N:List Str}{own:Nat}{cap:List (Option Nat)}{cl:List (Str×Addr)}{fp:List Addr}
theorem vp (I3:Inv X pins σ H3 s3)(C:gq X.env.scope X.N scope N own cap)(mG:∀ x c,cl.lookup x=some c->X.env.cells.lookup x=some c)(qj:∀ y∈scope.names,y.2 = .free->∃ c,cl.lookup y.1=some c)
  (hf:∀ b∈fp,nC X pins H3 b/\b<s3.heap.objs.size) {h4:Heap}{tk:Nat}{m4:Str->Option Value} (hn:h4.Ns s3.heap.objs.size m4) (hk:∀ b u,s3.heap.get? b=some u->h4.get? b=some u):
  Inv (gK X scope cl N fp s3 H3) [] (jh cap σ) H3 {s3 with heap:=h4,toks:=tk} :=by
 refine⟨⟨I3.ok.mod,C.kind,I3.ok.glob,I3.ok.blt,ai _,λx y c e1 e2=>I3.ok.inj x y c (mG _ _ e1) (mG _ _ e2),λx hx=>?_,λx c h=>?_,I3.ok.hd,I3.ok.frames,.inl rfl,λb hb=>?_,
  I3.bs,bq I3.ok.bsz I3.sz,λb o e hb=>?_,λb hb hz=>?_,I3.stack,I3.xu⟩,rfl,I3.bare,Un.kept hk,⟨m4,hn,λi x v e1 e2 e3=>?_⟩,λx c e=>?_,I3.hok.fresh (ai _),λx c e=>I3.lD x c (mG x c e),
  λp hp=>absurd (show p∈([]:List (Addr×Obj)) from hp) (by simp),I3.hok.kept hk,?_⟩
 ·obtain⟨y,hy,e,f⟩:=lB (env:=X.env) C.yb hx
  obtain⟨c,q⟩:=qj y hy f
  exact⟨c,by rw[<-e];exact q⟩
 ·exact absurd (show false=true from h) aC
 ·obtain⟨⟨f0,f1,f2,f3,f4,f5⟩,hlt⟩:=hf b hb
  exact⟨aK hlt,λx c e=>f4 x c (mG x c e)⟩
 ·obtain⟨⟨f0,f1,f2,f3,f4,f5⟩,hlt⟩:=hf b hb
  rcases f3 with z |z
  ·exact I3.ok.AI b o e z
  ·exact absurd (aT (ay e) (bq I3.ok.bsz z)) (cf _)
 ·obtain⟨⟨f0,f1,f2,f3,f4,f5⟩,hlt⟩:=hf b hb
  rcases aI.mp (I3.nX b hz)with z |z
  ·exact f1 z
  ·exact f2 z
 ·obtain⟨j,c1,c2⟩:=qe e2
  obtain⟨d1,d2⟩:=C.at e1 c1
  have hk2:=C.fre (x,.free) (cp d2) rfl
  obtain⟨mX,hnX,hl⟩:=I3.loc
  obtain⟨u,r,l⟩:=hl j x v d1 c2 (.inr hk2)
  refine⟨u,r,?_⟩
  rcases l with⟨k,_⟩|⟨k,c,e,z⟩
  ·exfalso
   have k':X.env.scope.names.lookup x=some .local:=k
   rcases hk2 with q |q
   ·rw[k']at q;cases q
   ·rw[k']at q;cases q
  ·obtain⟨c',q⟩:=qj (x,.free) (cp d2) rfl
   have e':=mG x c' q
   rw[e]at e'
   cases e'
   obtain⟨o,ho,hd⟩:=z
   exact .inr ⟨lR (env:=X.env) d2,c,q,o,hk _ _ ho,hd⟩
 ·obtain⟨v,o,ho,hd⟩:=I3.cell x c (mG x c e)
  exact⟨v,o,hk _ _ ho,hd⟩
 ·rw[CZ];exact C.len
theorem comp_back {tm:List (Addr×Obj)}{σ':St}{H':Hp}{s':Shared}(I3:Inv X pins σ H3 s3)(hf:∀ b∈fp,nC X pins H3 b)(I':Inv (gK X scope cl N fp s3 H3) tm σ' H' s'):Inv X pins σ H' s':=
 I3.E2 (ch:=fp) I'.os I'.base I'.hok I'.bare λb hb=>by
  obtain⟨f0,f1,f2,f3,f4,f5⟩:=hf b hb
  exact⟨f3,f1,f4,f5⟩
structure Apart (X:Cx)(pins:List (Addr×Obj))(C:Addr):Prop where
 loc:C≠X.env.locals
 new:X.s₀.heap.objs.size<=C
 cel:∀ x c,X.env.cells.lookup x=some c->c≠C
 pin:∀ p∈X.pn++pins,p.1≠C
theorem Inv.apart (I3:Inv X pins σ H3 s3):Apart X pins s3.heap.objs.size:=
 ⟨Nat.ne_of_gt I3.lt,I3.sz,λx c e=>by obtain⟨v,o,ho,_⟩:=I3.cell x c e;exact aK (ay ho),λp hp=>aK (ay (I3.pin p hp).1)⟩
theorem nN {C:Addr}{h':Heap}(I:Inv X pins σ H s)(P:Apart X pins C)(hn:H C=none)(hs:Heap.SameBut C s.heap h'):Inv X pins σ H {s with heap:=h'} :=
 I.turned (t':=s.toks) (λb o hb e=>(hs.2 b hb).trans e) hn P.loc (.inr P.new) P.cel P.pin
end
structure t5 (own:Nat)(g:TG):Prop where
 mono:∀ v σ H Q Q',(∀ σ' H',Q σ' H'->Q' σ' H')->g v σ H Q->g v σ H Q'
 own:∀ v σ H Q,g v σ H Q->g v σ H λσ' H'=>Q σ' H'/\σ'.length=σ.length/\∀ i,own<=i->σ'[i]? = σ[i]?
structure xp (own:Nat)(g:TGs):Prop where
 mono:∀ v σ H Q Q',(∀ σ' H',Q σ' H'->Q' σ' H')->g v σ H Q->g v σ H Q'
 own:∀ v σ H Q,g v σ H Q->g v σ H λσ' H'=>Q σ' H'/\σ'.length=σ.length/\∀ i,own<=i->σ'[i]? = σ[i]?
theorem t5.name {own i:Nat}(h:i<own):t5 own (pG i):=
 ⟨λv σ H Q Q' f q=>f _ _ q,λv σ H Q q=>⟨q,List.length_set,λj hj=>ei (by omega)⟩⟩
theorem xp.nil {own:Nat} :xp own HM:=⟨λv σ H Q Q' f q=>⟨q.1,f _ _ q.2⟩,λv σ H Q q=>⟨q.1,q.2,rfl,λ_ _=>rfl⟩⟩
theorem xp.cons {own:Nat}{t:TG}{u:TGs}(h1:t5 own t)(h2:xp own u):xp own (zW t u) where
 mono:=λv σ H Q Q' f ⟨x,r,e,q⟩=>⟨x,r,e,h1.mono _ _ _ _ _ (λσ' H' q=>h2.mono _ _ _ _ _ f q) q⟩
 own:=λv σ H Q ⟨x,r,e,q⟩=>⟨x,r,e,h1.mono _ _ _ _ _ (λσ1 H1 ⟨q,l1,o1⟩=>h2.mono _ _ _ _ _ (λσ2 H2 ⟨q,l2,o2⟩=>⟨q,l2.trans l1,λi hi=>(o2 i hi).trans (o1 i hi)⟩) (h2.own _ _ _ _ q)) (h1.own _ _ _ _ q)⟩
theorem t5.tup {own n:Nat}{K:PySem.W.Frag}{t:TGs}(h:xp own t):t5 own (HK K n t) where
 mono:=λv σ H Q Q' f ⟨a,xs,e,q1,q2,q⟩=>⟨a,xs,e,q1,q2,h.mono _ _ _ _ _ f q⟩
 own:=λv σ H Q ⟨a,xs,e,q1,q2,q⟩=>⟨a,xs,e,q1,q2,h.own _ _ _ _ q⟩
noncomputable def yD (X:Cx)(ifs:List Expr)(t:TT):Prop:=
 ∀ (pins:List (Addr×Obj)) (s:Shared) (σ:St) (H:Hp) (Q:Bool->Hp->Prop),Inv X pins σ H s->t σ H Q->wpAny (model X.prog X.w) X.A (t6 ifs X.env) (TP X pins σ Q) X.xe s
noncomputable def Ce:TT:=λ_ H Q=>Q true H
theorem gZ {X:Cx} :yD X [] Ce:=λ_ _ _ H _ I h=>wpAny_tests_nil ⟨H,I,h⟩
theorem nJ {X:Cx}{c:Expr}{t:TT}(h:PT X c t):yD X [c] t:=λpins s σ H Q I q=>wpAny_tests_one (h pins s σ H Q I q)
noncomputable def LcW (J:It)(g:TG)(tt:TT)(te:TE)(cap:List (Option Nat))(σ:St)(Q:VK)(l:Addr)(H1:Hp):Prop:=
 ∃ W:Nat->Nat->List V->Hp->Prop,(∃ m,W 0 m [] (upd H1 l (.lst [])))/\∀ i m acc H,W i m acc H->
  (J.stop i H/\Q (.ref l) H)\/(J.go i H/\∃ N:List V->Hp->Prop,(∀ wz H',N wz H'->∃ m',m'<m/\W (i+1) m' wz H')/\
   ∀ x H',J.yld i H x H'->g x (jh cap σ) H' λσ2 H2=>tt σ2 H2 λb H3=>
    if b=true then te σ2 H3 λy H4=>H4 l=some (.lst acc)/\acc.length<sizeLine/\N (acc ++ [y]) (upd H4 l (.lst (acc ++ [y])))
    else N acc H3)
noncomputable def tLC (wi:TI)(cap:List (Option Nat))(g:TG)(tt:TT)(te:TE):TE:=λσ H Q=>wi σ H λJ H1=>∀ l,H1 l=none->
 LcW J g tt te cap σ Q l H1
section
variable {X:Cx}{pins:List (Addr×Obj)}{σ:St}{H1:Hp}{s2:Shared}{scope:Scope}{N:List Str}{own:Nat}{cap:List (Option Nat)}{cl:List (Str×Addr)}{fp:List Addr}
 {tg iter elt:Expr}{ifs:List Expr}{pos:Pos}{g:TG}{tt:TT}{te:TE}{wi:TI}
theorem Aa {it:Addr}{tn:Nat->Heap->Prop}{J:It}{Q:VK}{RR:Value->Addr->Result->Shared->Prop}{E:Value->Shared->Prop}(I:Inv X pins σ H1 s2)(T:Turn X.prog X.w X.K tg J fp it tn)(t0:tn 0 s2.heap)
  (f:∀ b∈fp,nC X pins H1 b) (hc:X.calm=true) (C:gq X.env.scope X.N scope N own cap) (ho:t5 own g)
  (mG:∀ x c,cl.lookup x=some c->X.env.cells.lookup x=some c) (qj:∀ y∈scope.names,y.2 = .free->∃ c,cl.lookup y.1=some c)
  (hg:∀ s3 H3,PG (gK X scope cl N fp s3 H3) tg g) (ht:∀ s3 H3,yD (gK X scope cl N fp s3 H3) ifs tt) (he:∀ s3 H3,PE (gK X scope cl N fp s3 H3) elt te)
  (hw:∀ l,H1 l=none->LcW J g tt te cap σ Q l H1)
  (fin:∀ l C s' H' m',Inv X pins σ H' s'->s'.heap.Ns C m'->H' C=none->Apart X pins C->Q (.ref l) H'->RR (.ref l) C (.ok .next) s'):
  wpAny (model X.prog X.w) X.A (newList []) (λacc s₃=>wpAny (model X.prog X.w) X.A (newFunctionEnv scope X.env.globals cl [] X.env.qual none .none (some X.env)) (λcenv s₄=>
   codeAny (model X.prog X.w) X.A (.compStart (.ListComp elt [⟨tg,iter,ifs,0⟩] scope pos) 0 (.ref it) acc {cenv with scope:=relabel scope X.env}) (RR acc cenv.locals) s₄) E s₃) E s2:=by
 refine wpAny_newObj_type (wpAny_newFunctionEnv C.yb (by intro y hy;simp at hy) (λh₁ mF mE=>?_) C.kind)
 dsimp only at mF mE ⊢
 obtain⟨W,⟨m0,w0⟩,turn⟩:=hw s2.heap.objs.size I.fresh
 have I3:Inv X pins σ (upd H1 s2.heap.objs.size (.lst [])) {s2 with heap:=s2.heap.push {cls:=.type "list",dict:=none,data:=.seq ([]:List Value).toArray}} :=I.Hr (ys:=[]) (its:=[]) (t':=s2.toks) .nil (aP _)
 generalize hs3:({s2 with heap:=s2.heap.push {cls:=.type "list",dict:=none,data:=.seq ([]:List Value).toArray}} :Shared)=s3 at I3
 have hh3:s3.heap=s2.heap.push {cls:=.type "list",dict:=none,data:=.seq ([]:List Value).toArray} :=by rw[<-hs3]
 rw[<-hh3]at mF mE ⊢
 have e4:({s2 with heap:=h₁,toks:=s2.toks+([]:List (Str×Value)).length} :Shared) = {s3 with heap:=h₁,toks:=s2.toks} :=by rw[<-hs3];rfl
 rw[e4]
 have k4:∀ b u,s3.heap.get? b=some u->h₁.get? b=some u:=λb u e=>mE.extBut b u (aK (ay e)) (ak _ e)
 have k3:∀ b u,s2.heap.get? b=some u->s3.heap.get? b=some u:=λb u e=>by rw[hh3];exact ak _ e
 have hb2:∀ b∈fp,b<s2.heap.objs.size:=λb hb=>by obtain⟨o,e,_⟩:=T.obj _ _ t0 b hb;exact ay e
 have f3:∀ b∈fp,nC X pins (upd H1 s2.heap.objs.size (.lst [])) b:=λb hb=>by
  obtain⟨f0,fr⟩:=f b hb
  exact⟨by rw[fE (aK (hb2 b hb))];exact f0,fr⟩
 have hb3:∀ b∈fp,b<s3.heap.objs.size:=λb hb=>by obtain⟨o,e,_⟩:=T.obj _ _ t0 b hb;exact ay (k3 b o e)
 have I4:=vp (tk:=s2.toks) I3 C mG qj (λb hb=>⟨f3 b hb,hb3 b hb⟩) mF k4
 generalize hH3:upd H1 s2.heap.objs.size (.lst [])=H3 at *
 have st4:tn 0 h₁:=T.keep _ _ _ t0 λb hb o e=>k4 b o (k3 b o e)
 have fpX:∀ {H':Hp},(∀ b∈fp,H' b=none)->∀ b∈fp,nC (gK X scope cl N fp s3 H3) [] H' b:=λ{H'} hn b hb=>by
  obtain⟨f0,f1,f2,f3',f4,f5⟩:=f3 b hb
  refine⟨hn b hb,aK (hb3 b hb),λhz=>?_,.inl hb,λx c e=>f4 x c (mG x c e),λp hp=>absurd (show p∈([]:List (Addr×Obj)) from hp) (by simp)⟩
  rcases aI.mp (I3.nX b hz)with z |z
  ·exact f1 z
  ·exact f2 z
 have loop:codeAny (model X.prog X.w) X.A (.compLoop (.ListComp elt [⟨tg,iter,ifs,0⟩] scope pos) 0 (.ref it) (.ref s2.heap.objs.size) (compEnvC scope cl s3.heap.objs.size X.env)) (RR (.ref s2.heap.objs.size) s3.heap.objs.size) {s3 with heap:=h₁,toks:=s2.toks} :=by
  refine Ab (λn s'=>∃ i acc H',Inv (gK X scope cl N fp s3 H3) [] (jh cap σ) H' s'/\tn i s'.heap/\(∀ b∈fp,H' b=none)/\W i n acc H') ?_ m0 ⟨0,[],H3,I4,st4,λb hb=>(f3 b hb).1,w0⟩
  rintro n s' ⟨i,acc,H',I',st,fr,w⟩
  rcases turn i n acc H' w with⟨stop,q⟩|⟨go,NN,hNN,step⟩
  ·refine thn (T.done (gK X scope cl N fp s3 H3) rfl rfl rfl hc i [] s' _ H' (λ_ _=>False) I' (fpX fr) st stop) λr s5 ⟨hr,I5⟩=>?_
   subst hr
   obtain⟨m5,hn5,_⟩:=id I5.loc
   exact fin _ _ s5 H' m5 (comp_back I3 f3 I5) hn5 I5.free (TL.Inv.apart I3) q
  ·refine thn (T.item (gK X scope cl N fp s3 H3) rfl rfl rfl hc i [] s' _ H' (λ_ _=>False) I' (fpX fr) st go) λr s5 ⟨u,hr,h5⟩=>?_
   subst hr
   refine thn h5 λ_ s6 ⟨x,H6,I6,r6,y6,st6,fr6⟩=>?_
   have I6':=I6.pinned (fpX fr6) (T.obj _ _ st6)
   refine thn (hg s3 H3 _ s6 _ H6 x u _ I6' r6 (ho.own _ _ _ _ (step x H6 y6))) λ_ s7 ⟨σ7,H7,I7,q7,l7,o7⟩=>?_
   have cov:∀ (i:Nat) v,(jh cap σ)[i]? = some (some v)->σ7[i]? = some (some v):=λi v e=>by
    obtain⟨j,c1,c2⟩:=qe e
    by_cases hi:i<own
    ·exact(C.uK hi c1).elim
    ·rw[o7 i (by omega)];exact e
   have back:∀ {H8:Hp}{s8:Shared},Inv (gK X scope cl N fp s3 H3) ([]++qx fp s6.heap) σ7 H8 s8->Inv (gK X scope cl N fp s3 H3) [] (jh cap σ) H8 s8/\tn (i+1) s8.heap/\∀ b∈fp,H8 b=none:=λ{H8 s8} I8=>by
    refine⟨(Inv.nE (pins:=[]) I8).weak l7.symm cov,T.keep _ _ _ st6 λb hb o e=>(I8.pin (b,o) (aL _ (aL _ (ju hb e)))).1,λb hb=>?_⟩
    obtain⟨o,e,d⟩:=T.obj _ _ st6 b hb
    exact(I8.pin (b,o) (aL _ (aL _ (ju hb e)))).2.1
   refine thn (ht s3 H3 _ s7 σ7 H7 _ I7 q7) λb s8 ⟨H8,I8,q8⟩=>?_
   cases b with
   |false=>
    rw[au aC]at q8 ⊢
    obtain⟨m',hm,w8⟩:=hNN _ _ q8
    obtain⟨J1,J2,J3⟩:=back I8
    exact⟨m',hm,i+1,acc,H8,J1,J2,J3,w8⟩
   |true=>
    rw[aA rfl]at q8 ⊢
    refine thn (he s3 H3 _ s8 σ7 H8 _ I8 q8) λv s9 ⟨y,H9,I9,r9,ha,hz,n9⟩=>?_
    obtain⟨m',hm,w9⟩:=hNN _ _ n9
    refine thn (kU _ s9 σ7 H9 (.ref s2.heap.objs.size) [y] (.ref s2.heap.objs.size) [v] (λ_ H10=>W (i+1) m' (acc ++ [y]) H10) I9 rfl (.cons r9 .nil) ⟨_,acc,y,rfl,rfl,ha,hz,w9⟩) λ_ s10 ⟨_,H10,I10,_,w10⟩=>?_
    obtain⟨J1,J2,J3⟩:=back I10
    exact⟨m',hm,i+1,acc ++ [y],H10,J1,J2,J3,w10⟩
 exact codeAny_compStart_list loop (T.self X.A 0 _ _ _ st4 loop)
theorem nL (hi:PI X tg iter wi)(hc:X.calm=true)(C:gq X.env.scope X.N scope N own cap)(ho:t5 own g)
  (hg:∀ cl fp s3 H3,PG (gK X scope cl N fp s3 H3) tg g) (ht:∀ cl fp s3 H3,yD (gK X scope cl N fp s3 H3) ifs tt) (he:∀ cl fp s3 H3,PE (gK X scope cl N fp s3 H3) elt te)
  (hs:∀ x,foldedSetIterable iter X.env x=pure x:=by intro _;rfl):PE X (.ListComp elt [⟨tg,iter,ifs,0⟩] scope pos) (tLC wi cap g tt te):=by
 intro pins s σ H Q I h
 obtain⟨cl,ecl,mG,qj⟩:=oz (scope:=scope) (env:=X.env) λy hy hf=>I.ok.has y.1 (C.fre y hy hf)
 rw[eval_ListComp]
 refine wpAny_comprehension_free (use:=none) rfl hs ecl C.kind C.loc (thn (hi pins s σ H _ I h) λxv s1 h1=>thn h1 λitv s2 h2=>?_)
 obtain⟨it,fp,tn,J,H2,e,I2,T,st2,f2,hw⟩:=h2
 subst e
 refine Aa (RR:=λacc C=>compPost (model X.prog X.w) X.A X.xe none (EP X pins σ Q) acc C) I2 T st2 f2 hc C ho mG qj (hg cl fp) (ht cl fp) (he cl fp) hw λl Ca s' H' m' I' hn mZ hP q=>?_
 exact⟨m',hn,λh'' AX=>⟨.ref l,H',nN I' hP mZ AX,rfl,q⟩⟩
theorem uE {i:Nat}{x:Str}{pos' IH:Pos}(hN:X.N.Nodup)(hi':X.N[i]? = some x)(hx:X.env.scope.names.lookup x=some .local)(hi:PI X tg iter wi)(hc:X.calm=true)(C:gq X.env.scope X.N scope N own cap)(ho:t5 own g)
  (hg:∀ cl fp s3 H3,PG (gK X scope cl N fp s3 H3) tg g) (ht:∀ cl fp s3 H3,yD (gK X scope cl N fp s3 H3) ifs tt) (he:∀ cl fp s3 H3,PE (gK X scope cl N fp s3 H3) elt te)
  (hsw:swapsWith (.ListComp elt [⟨tg,iter,ifs,0⟩] scope pos) (some (.Name x pos')) IH.line X.env=pure true:=by rfl)
  (hs:∀ x,foldedSetIterable iter X.env x=pure x:=by intro _;rfl):PS X (.Assign [.Name x pos'] (.ListComp elt [⟨tg,iter,ifs,0⟩] scope pos) IH) (GX (tLC wi cap g tt te) (pG i)):=by
 intro pins s σ H D I h
 obtain⟨cl,ecl,mG,qj⟩:=oz (scope:=scope) (env:=X.env) λy hy hf=>I.ok.has y.1 (C.fre y hy hf)
 rw[exec_Assign_Name_used _ _ _ _ hsw]
 refine ae (cm (ae ?_))
 show wpAny _ X.A (do let _ <-comprehension (.ListComp elt [⟨tg,iter,ifs,0⟩] scope pos) scope X.env _ (newList []) false (eval iter X.env) (some (assign (.Name x pos') X.env))) _ _ s
 refine ae (aY (wpAny_comprehension_free (use:=some (assign (.Name x pos') X.env)) (Q:=λ_ s'=>SP X pins D .next s') rfl hs ecl C.kind C.loc
  (thn (hi pins s σ H _ I h) λxv s1 h1=>thn h1 λitv s2 h2=>?_)) (λ_ s' hq=>aj (aj hq)) λ_ _ e=>e)
 obtain⟨it,fp,tn,J,H2,e,I2,T,st2,f2,hw⟩:=h2
 subst e
 refine Aa (RR:=λacc C=>compPost (model X.prog X.w) X.A X.xe (some (assign (.Name x pos') X.env)) (λ_ s'=>SP X pins D .next s') acc C) I2 T st2 f2 hc C ho mG qj (hg cl fp) (ht cl fp) (he cl fp) hw λl Ca s' H' m' I' hn mZ hP q=>?_
 show wpAny _ X.A (assign (.Name x pos') X.env (.ref l)) _ _ _
 refine wpAny_assign_Name (wF I' hN hi' (.inl hx) (v:=.ref l) rfl (λs5 I5 ⟨a,sb,ha⟩=>?_) (.inr hx))
 have hne:Ca≠a:=by
  rcases ha with z |z
  ·rw[z];exact hP.loc
  ·exact λe=>hP.cel x a z e.symm
 refine⟨m',hn.sameBut sb hne,λh'' AX=>⟨_,H',nN I5 hP mZ AX,q⟩⟩
end
section
variable {K:PySem.W.Frag}{a l:Addr}{xs:List V}{g:TG}{tt:TT}{te:TE}{cap:List (Option Nat)}{σ:St}{Q:VK}{H1:Hp}
theorem FJ (Pv:Nat->List V->Hp->Prop)(h0:Pv 0 [] (upd H1 l (.lst [])))(hl:∀ i acc H,i<=xs.length->Pv i acc H->SqL K H a xs)
  (hs:∀ i x acc H,xs[i]? = some x->Pv i acc H->g x (jh cap σ) H λσ2 H2=>tt σ2 H2 λb H3=>
    if b=true then te σ2 H3 λy H4=>H4 l=some (.lst acc)/\acc.length<sizeLine/\Pv (i+1) (acc ++ [y]) (upd H4 l (.lst (acc ++ [y])))
    else Pv (i+1) acc H3) (hd:∀ acc H,Pv xs.length acc H->Q (.ref l) H):LcW (Itl K a) g tt te cap σ Q l H1:=by
 refine⟨λi m acc H=>m=xs.length-i/\i<=xs.length/\Pv i acc H,⟨xs.length,by simp,aP _,h0⟩,?_⟩
 rintro i m acc H ⟨rfl,hi,p⟩
 have q:=hl i acc H hi p
 by_cases hlt:i<xs.length
 ·refine .inr ⟨⟨xs,xs[i],q,by simp[hlt]⟩,Pv (i+1),λwz H' p'=>⟨xs.length-(i+1),by omega,rfl,hlt,p'⟩,λx H' y=>?_⟩
  obtain⟨e,y⟩:=y
  subst e
  exact hs i x acc _ (y xs q) p
 ·have e:i=xs.length:=by omega
  subst e
  exact .inl ⟨⟨xs,q,ai _⟩,hd acc H p⟩
theorem eY {H:Hp}{l:Addr}{o:HO}(hn:H l=none):fk H (upd H l o):=λb u e=>by rw[fE (fu e hn)];exact e
theorem lZ {α:Type}(ds:List α)(p:α->Bool)(f:α->V)(hn:H1 l=none)(hx:SqL K H1 a xs)(hlen:xs.length=ds.length)(hz:xs.length<sizeLine)
  (hs:∀ (i:Nat) x d H,xs[i]? = some x->ds[i]? = some d->fk H1 H->∀ (P1:VK) (P0:Hp->Prop),(p d=true->P1 (f d) H)->(p d=false->P0 H)->
   g x (jh cap σ) H λσ2 H2=>tt σ2 H2 λb H3=>if b=true then te σ2 H3 P1 else P0 H3)
  (hq:Q (.ref l) (upd H1 l (.lst ((ds.filter p).map f)))):LcW (Itl K a) g tt te cap σ Q l H1:=by
 refine FJ (λi acc H=>acc=((ds.take i).filter p).map f/\H=upd H1 l (.lst acc)) ⟨rfl,rfl⟩ (λi acc H _ ⟨_,e⟩=>by rw[e];exact(eY hn).seq hx) ?_ ?_
 ·rintro i x acc H hi ⟨e1,e2⟩
  have hlt:i<xs.length:=(af.mp hi).1
  have hd:ds[i]? = some (ds[i]'(by omega)):=by simp
  generalize ds[i]'(by omega)=d at hd
  have step:((ds.take (i+1)).filter p).map f=acc++(if p d=true then[f d]else[]):=by
   rw[take_succ_filter p ds i d hd,aX,e1]
   cases p d<;>rfl
  refine hs i x d H hi hd (by rw[e2];exact eY hn) _ _ (λhp=>?_) (λhp=>?_)
  ·refine⟨by rw[e2,eZ],?_,?_,?_⟩
   ·have h1:acc.length<=i:=by
     rw[e1,aa]
     exact bq (bS _ _) (by rw[aN];omega)
    omega
   ·rw[step,hp];rfl
   ·rw[e2,nU]
  ·refine⟨?_,e2⟩
   rw[step,hp,au aC,bN]
 ·rintro acc H ⟨e1,e2⟩
  rw[hlen,bW]at e1
  rw[e2,e1]
  exact hq
end
mutual
noncomputable def Dg (L T:Addr->List V->Prop):PyData->V->Prop
 |.none,v=>v = .non
 |.bool b,v=>v = .bl b
 |.int i,v=>v = .int i
 |.str x,v=>v = .str x
 |.list ds,v=>∃ a vs,v = .ref a/\L a vs/\Dgs L T ds vs
 |.tuple ds,v=>∃ a vs,v = .ref a/\T a vs/\Dgs L T ds vs
 |.dict _,_=>False
noncomputable def Dgs (L T:Addr->List V->Prop):List PyData->List V->Prop
 |[],vs=>vs = []
 |d::ds,vs=>∃ v r,vs=v::r/\Dg L T d v/\Dgs L T ds r
end
mutual
theorem Dg.mono {L T L' T':Addr->List V->Prop}(hL:∀ a vs,L a vs->L' a vs)(hT:∀ a vs,T a vs->T' a vs):∀ {d:PyData}{v:V},Dg L T d v->Dg L' T' d v
 |.none,_,h=>by simpa only[Dg]using h
 |.bool _,_,h=>by simpa only[Dg]using h
 |.int _,_,h=>by simpa only[Dg]using h
 |.str _,_,h=>by simpa only[Dg]using h
 |.list ds,_,h=>by
  simp only[Dg]at h ⊢
  obtain⟨a,vs,e,l,q⟩:=h
  exact⟨a,vs,e,hL a vs l,Dgs.mono hL hT q⟩
 |.tuple ds,_,h=>by
  simp only[Dg]at h ⊢
  obtain⟨a,vs,e,l,q⟩:=h
  exact⟨a,vs,e,hT a vs l,Dgs.mono hL hT q⟩
 |.dict _,_,h=>by simp only[Dg]at h
theorem Dgs.mono {L T L' T':Addr->List V->Prop}(hL:∀ a vs,L a vs->L' a vs)(hT:∀ a vs,T a vs->T' a vs):∀ {ds:List PyData}{vs:List V},Dgs L T ds vs->Dgs L' T' ds vs
 |[],_,h=>by simpa only[Dgs]using h
 |d::ds,_,h=>by
  simp only[Dgs]at h ⊢
  obtain⟨v,r,e,l,q⟩:=h
  exact⟨v,r,e,Dg.mono hL hT l,Dgs.mono hL hT q⟩
end
section
variable {L T:Addr->List V->Prop}
theorem gD {i:Int}{v:V} :Dg L T (.int i) v↔v = .int i:=by simp only[Dg]
theorem sD {i:Str}{v:V} :Dg L T (.str i) v↔v = .str i:=by simp only[Dg]
theorem jg {ds:List PyData}{v:V} :Dg L T (.list ds) v↔∃ a vs,v = .ref a/\L a vs/\Dgs L T ds vs:=by simp only[Dg]
theorem gC {ds:List PyData}{v:V} :Dg L T (.tuple ds) v↔∃ a vs,v = .ref a/\T a vs/\Dgs L T ds vs:=by simp only[Dg]
theorem gQ {vs:List V} :Dgs L T [] vs↔vs = []:=by simp only[Dgs]
theorem fX {d:PyData}{ds:List PyData}{vs:List V} :Dgs L T (d::ds) vs↔∃ v r,vs=v::r/\Dg L T d v/\Dgs L T ds r:=by simp only[Dgs]
theorem Dgs.length:∀ {ds:List PyData}{vs:List V},Dgs L T ds vs->vs.length=ds.length
 |[],_,h=>by rw[gQ.mp h];rfl
 |d::ds,_,h=>by
  obtain⟨v,r,rfl,_,q⟩:=fX.mp h
  rw[aQ,aQ,Dgs.length q]
theorem mH:∀ {ns:List Int}{vs:List V},Dgs L T (ns.map .int) vs↔vs=ns.map V.int
 |[],vs=>gQ
 |n::ns,vs=>by
  rw[bt,fX]
  constructor
  ·rintro⟨v,r,rfl,h1,h2⟩
   rw[gD.mp h1,mH.mp h2];rfl
  ·rintro rfl
   exact⟨_,_,rfl,gD.mpr rfl,mH.mpr rfl⟩
theorem Dgs.append:∀ {ds es:List PyData}{vs us:List V},Dgs L T ds vs->Dgs L T es us->Dgs L T (ds++es) (vs++us)
 |[],_,_,_,h,k=>by rw[gQ.mp h];exact k
 |d::ds,_,_,_,h,k=>by
  obtain⟨v,r,rfl,h1,q⟩:=fX.mp h
  exact fX.mpr ⟨v,_,rfl,h1,Dgs.append q k⟩
theorem Dgs.one {d:PyData}{v:V}(h:Dg L T d v):Dgs L T [d] [v]:=fX.mpr ⟨v,[],rfl,h,gQ.mpr rfl⟩
theorem Dgs.two {d e:PyData}{v u:V}(h:Dg L T d v)(k:Dg L T e u):Dgs L T [d,e] [v,u]:=fX.mpr ⟨v,[u],rfl,h,.one k⟩
theorem Dgs.get:∀ {ds:List PyData}{vs:List V}{i:Nat}{v:V},Dgs L T ds vs->vs[i]? = some v->∃ d,ds[i]? = some d/\Dg L T d v
 |[],_,_,_,h,e=>by rw[gQ.mp h]at e;simp at e
 |d::ds,_,0,v,h,e=>by
  obtain⟨x,r,rfl,h1,q⟩:=fX.mp h
  simp at e;subst e
  exact⟨d,rfl,h1⟩
 |d::ds,_,i+1,v,h,e=>by
  obtain⟨x,r,rfl,h1,q⟩:=fX.mp h
  obtain⟨d',e1,e2⟩:=Dgs.get (i:=i) (v:=v) q (by simpa using e)
  exact⟨d',by simpa using e1,e2⟩
theorem Dgs.insert:∀ {ds:List PyData}{vs:List V} (i:Nat) {d:PyData}{v:V},Dgs L T ds vs->Dg L T d v->Dgs L T (ds.take i++d::ds.drop i) (vs.take i++v::vs.drop i)
 |ds,vs,0,d,v,h,k=>fX.mpr ⟨v,vs,by simp,k,by simpa using h⟩
 |[],vs,i+1,d,v,h,k=>by rw[gQ.mp h];simpa using Dgs.one k
 |x::ds,vs,i+1,d,v,h,k=>by
  obtain⟨y,r,rfl,h1,q⟩:=fX.mp h
  exact fX.mpr ⟨y,_,rfl,h1,Dgs.insert i q k⟩
end
noncomputable abbrev Da (K:PySem.W.Frag)(H:Hp):PyData->V->Prop:=Dg (SqL K H) (SqT K H)
noncomputable abbrev Das (K:PySem.W.Frag)(H:Hp):List PyData->List V->Prop:=Dgs (SqL K H) (SqT K H)
theorem gT {K:PySem.W.Frag}{H H':Hp}{a:Addr}{xs:List V}(e:fk H H')(h:SqT K H a xs):SqT K H' a xs:=by
 rcases h with(h |⟨o,h⟩)|h
 ·exact .inl (.inl (e _ _ h))
 ·exact .inl (.inr ⟨o,e _ _ h⟩)
 ·exact .inr h
theorem Da.same {K:PySem.W.Frag}{H H':Hp}(e:fk H H'){d:PyData}{v:V}(h:Da K H d v):Da K H' d v:=Dg.mono (λ_ _ q=>e.seq q) (λ_ _ q=>gT e q) h
theorem Das.same {K:PySem.W.Frag}{H H':Hp}(e:fk H H'){d:List PyData}{v:List V}(h:Das K H d v):Das K H' d v:=Dgs.mono (λ_ _ q=>e.seq q) (λ_ _ q=>gT e q) h
section
variable {X:Cx}{pins:List (Addr×Obj)}{σ:St}{H:Hp}{s:Shared}
mutual
theorem Da.reads (I:Inv X pins σ H s):∀ {d:PyData}{v:V}{u:Value},Da X.K H d v->RelV v u->∃ as,Reads s.heap u d as
 |.none,v,u,h,r=>by
  have e:v = .non:=by simpa only[Dg]using h
  subst e;cases r;exact⟨_,.none⟩
 |.bool b,v,u,h,r=>by
  have e:v = .bl b:=by simpa only[Dg]using h
  subst e;cases r;exact⟨_,.bool b⟩
 |.int i,v,u,h,r=>by
  have e:v = .int i:=by simpa only[Dg]using h
  subst e;obtain⟨t,rfl⟩:=r;exact⟨_,.int i t⟩
 |.str i,v,u,h,r=>by
  have e:v = .str i:=by simpa only[Dg]using h
  subst e;obtain⟨t,rfl⟩:=r;exact⟨_,.str i t⟩
 |.list ds,v,u,h,r=>by
  obtain⟨a,vs,rfl,l,q⟩:=jg.mp h
  cases r
  obtain⟨its,rv,p,hz⟩:=I.list l
  obtain⟨as,rs⟩:=Das.reads I q rv
  obtain⟨o,ho,hc,n,hd⟩:=p.isList
  exact⟨_,.list ho hc hd (by simpa using rs)⟩
 |.tuple ds,v,u,h,r=>by
  obtain⟨a,vs,rfl,l,q⟩:=gC.mp h
  cases r
  obtain⟨its,rv,p,hz⟩:=I.tuple l
  obtain⟨as,rs⟩:=Das.reads I q rv
  obtain⟨o,ho,hc,n,hd⟩:=p
  exact⟨_,.tuple ho hc hd (by simpa using rs)⟩
 |.dict _,v,u,h,r=>by simp only[Dg]at h
theorem Das.reads (I:Inv X pins σ H s):∀ {ds:List PyData}{vs:List V}{us:List Value},Das X.K H ds vs->Vals vs us->∃ as,ReadsAll s.heap us ds as
 |[],vs,us,h,r=>by
  rw[gQ.mp h]at r;cases r;exact⟨_,.nil⟩
 |d::ds,vs,us,h,r=>by
  obtain⟨v,w,rfl,h1,q⟩:=fX.mp h
  cases r with
  |cons r1 r2=>
   obtain⟨as,e1⟩:=Da.reads I h1 r1
   obtain⟨bs,e2⟩:=Das.reads I q r2
   exact⟨_,.cons e1 e2⟩
end
end
section
variable {X:Cx}
noncomputable def OkD (d:PyData):Prop:=d.canLay0=true/\d.depth<=20
noncomputable def IS (K:PySem.W.Frag):R2:=λx y H Q=>∃ d e,Da K H d x/\Da K H e y/\OkD d/\OkD e/\Q (.bl (PyData.eqv d e)) H
noncomputable def K0 (K:PySem.W.Frag):R2:=λx y H Q=>∃ d e,Da K H d x/\Da K H e y/\OkD d/\OkD e/\Q (.bl (!PyData.eqv d e)) H
theorem uO (hu:X.A.units+64<cLine):OpR X (compareOp .Eq) (IS X.K):=by
 intro pins s σ H x y v u Q I rx ry h
 obtain⟨d,e,h1,h2,o1,o2,q⟩:=h
 obtain⟨as,r1⟩:=Da.reads I h1 rx
 obtain⟨bs,r2⟩:=Da.reads I h2 ry
 exact SeqAt.compareEq_reads r1 r2 o1.1 o2.1 (by have:=o1.2;have:=o2.2;omega) ⟨.bl _,H,I,rfl,q⟩
theorem Hg (hu:X.A.units+64<cLine):OpR X (compareOp .NotEq) (K0 X.K):=by
 intro pins s σ H x y v u Q I rx ry h
 obtain⟨d,e,h1,h2,o1,o2,q⟩:=h
 obtain⟨as,r1⟩:=Da.reads I h1 rx
 obtain⟨bs,r2⟩:=Da.reads I h2 ry
 exact SeqAt.compareNe_reads r1 r2 o1.1 o2.1 (by have:=o1.2;have:=o2.2;omega) ⟨.bl _,H,I,rfl,q⟩
noncomputable def Ie (ds:List PyData):Prop:=PyData.canLayAll0 ds=true/\PyData.depthAll ds<=20
noncomputable def IQ (K:PySem.W.Frag)(neg:Bool):R2:=λx y H Q=>∃ ds d,Da K H (.list ds) y/\Da K H d x/\Ie ds/\OkD d/\Q (.bl (if neg then !(ds.any λz=>PyData.eqv z d)else ds.any λz=>PyData.eqv z d)) H
theorem mf (hu:X.A.units+64<cLine):OpR X (compareOp .NotIn) (IQ X.K true):=by
 intro pins s σ H x y v u Q I rx ry h
 obtain⟨ds,d,h1,h2,o1,o2,q⟩:=h
 obtain⟨as,r1⟩:=Da.reads I h1 ry
 obtain⟨bs,r2⟩:=Da.reads I h2 rx
 exact SeqAt.notIn_list_reads r1 r2 o1.1 o2.1 (by have:=o1.2;have:=o2.2;omega) ⟨.bl _,H,I,rfl,q⟩
end
theorem kI {α:Type}{f:α->PyData}(h:∀ x,(f x).canLay0=true):∀ l:List α,PyData.canLayAll0 (l.map f)=true
 |[]=>by simp[PyData.canLayAll0]
 |x::l=>by simp[PyData.canLayAll0,h x,kI h l]
theorem iU {α:Type}{f:α->PyData}{k:Nat}(h:∀ x,(f x).depth<=k):∀ l:List α,PyData.depthAll (l.map f)<=k
 |[]=>by simp[PyData.depthAll]
 |x::l=>by
  simp only[bt,PyData.depthAll]
  exact Nat.max_le.mpr ⟨h x,iU h l⟩
noncomputable def dI (ns:List Int):PyData:=.list (ns.map .int)
noncomputable def dP (p:Int×Int):PyData:=.tuple [.int p.1,.int p.2]
noncomputable def dJ (js:List (Int×Int)):PyData:=.list (js.map dP)
noncomputable def dL (l:Int×List (Int×Int)):PyData:=.tuple [.int l.1,dJ l.2]
theorem p7 (i:Int):OkD (.int i):=⟨rfl,by simp[PyData.depth]⟩
theorem uS (ns:List Int):OkD (dI ns):=⟨by simp only[dI,PyData.canLay0];exact kI (λ_=>rfl) ns,by
 simp only[dI,PyData.depth]
 have:=iU (f:=PyData.int) (k:=0) (λ_=>by simp[PyData.depth]) ns
 omega⟩
theorem Ad (p:Int×Int):(dP p).canLay0=true:=by simp[dP,PyData.canLay0,PyData.canLayAll0]
theorem BO (p:Int×Int):(dP p).depth<=1:=by simp[dP,PyData.depth,PyData.depthAll]
theorem IZ (p:Int×Int):OkD (dP p):=⟨Ad p,by have:=BO p;omega⟩
theorem Hk (js:List (Int×Int)):Ie (js.map dP):=⟨kI Ad js,by have:=iU BO js;omega⟩
theorem GD (p q:Int×Int):PyData.eqv (dP p) (dP q)=decide (p=q):=by
 obtain⟨a,b⟩:=p
 obtain⟨c,d⟩:=q
 simp only[dP,PyData.eqv,PyData.eqvAll,Bool.and_true]
 rw[cn]
 simp
theorem JL (js:List (Int×Int))(p:Int×Int):((js.map dP).any λz=>PyData.eqv z (dP p))=decide (p∈js):=by
 rw[List.any_map,cn,List.any_eq_true,eE]
 constructor
 ·rintro⟨x,hx,e⟩
  have e':PyData.eqv (dP x) (dP p)=true:=e
  rw[GD,eE]at e'
  rw[<-e'];exact hx
 ·intro h
  exact⟨p,h,by show PyData.eqv (dP p) (dP p)=true;rw[GD];simp⟩
theorem kE (ds:List PyData):PyData.eqv (.list ds) (.list [])=ds.isEmpty:=by
 cases ds<;>simp[PyData.eqv,PyData.eqvAll]
theorem rg:OkD (.list []):=uS []
section
variable {X:Cx}
theorem FN (its:List Value)(k:Nat)(y:Value):(its.toArray.extract 0 k).push y++its.toArray.extract k=(its.take k++y::its.drop k).toArray:=PySem.W.kl_ins_eq its k y
noncomputable def Fs:V->List V->Hp->VK->Prop:=λx vs H Q=>∃ l xs i y,x = .ref l/\vs = [.int i,y]/\H l=some (.lst xs)/\0<=i/\i<=xs.length/\xs.length<sizeLine/\Q .non (upd H l (.lst (xs.take i.toNat++y::xs.drop i.toNat)))
theorem CA:MtM X "list.insert" Fs:=by
 intro pins s σ H x vs v us Q I rx rv h
 obtain⟨l,xs,i,y,rfl,rfl,hH,h0,h1,hz,q⟩:=h
 cases rx
 obtain⟨ui,u,rfl,ri,ru⟩:=rv.two
 obtain⟨t,rfl⟩:=ri
 obtain⟨z,its,n,r,hl,e⟩:=I.CB hH
 have hs:its.toArray.size<=sizeLine:=by rw[aE];omega
 have hf:Builtin.List.listFitsIndex i=true:=by
  unfold Builtin.List.listFitsIndex
  have h63:(sizeLine:Nat)<2 ^ 62:=by rw[aM];decide
  simp only[cM,du]
  constructor<;>omega
 refine eC PySem.F.slot_list_insert ⟨_,e,rfl⟩ PySem.F.entry_list_insert (PySem.F.args_list_insert_3 _ _ _) (PySem.AutoSeq1.list_insert_list_int_val_1 l its.toArray n i t u (by simp[hf]) hs) ⟨e,?_⟩
 refine⟨.non,_,I.Ji (its':=its.take i.toNat++u::its.drop i.toNat) (ys:=xs.take i.toNat++y::xs.drop i.toNat) hH e ?_ ((r.take i.toNat).append (.cons ru (r.drop i.toNat))) ?_,rfl,q⟩
 ·have hk:(if i<0 then(i+(its.toArray.size:Int)).toNat else min i.toNat its.toArray.size)=i.toNat:=by
   rw[au (by omega),aE]
   omega
  show(its.toArray.extract 0 (if i<0 then(i+(its.toArray.size:Int)).toNat else min i.toNat its.toArray.size)).push u++its.toArray.extract (if i<0 then(i+(its.toArray.size:Int)).toNat else min i.toNat its.toArray.size)=_
  rw[hk,FN]
 ·rw[aU,aQ,aN,bC]
  omega
end
noncomputable def srt (ns:List Int):List Int:=ns.mergeSort (λa b=>decide (a<=b))
theorem qK (ns:List Int):(srt ns).Perm ns:=List.mergeSort_perm ns _
theorem yS (ns:List Int):(srt ns).Pairwise (· <= ·):=by
 have h:=List.pairwise_mergeSort (le:=λa b:Int=>decide (a<=b)) (by intro a b c h1 h2;simp only[du]at *;omega) (by intro a b;simp only[Bool.or_eq_true,du];omega) ns
 exact h.imp (by intro a b h;simpa using h)
theorem Aq {a b:List Int}(hp:a.Perm b)(ha:a.Pairwise (· <= ·))(hb:b.Pairwise (· <= ·)):a=b:=PySem.W.ksm_same hp ha hb
theorem Dy {a ns:List Int}(hp:a.Perm ns)(ha:a.Pairwise (· <= ·)):a=srt ns:=Aq (hp.trans (qK ns).symm) ha (yS ns)
theorem Cg {a b:List Int}(hp:a.Perm b):srt a=srt b:=Dy ((qK a).trans hp) (yS a)
theorem Fj {ns:List Int}{x:Int} :x∈srt ns↔x∈ns:=(qK ns).mem_iff
theorem nY (ns:List Int):(srt ns).length=ns.length:=(qK ns).length_eq
theorem Inv.B9 {X:Cx}{pins:List (Addr×Obj)}{σ:St}{H:Hp}{s:Shared}{h':Heap}{t':Nat}{ch:List Addr}{xs:List V}{us:List Value}(I:Inv X pins σ H s)(hf:∀ b∈ch,nC X pins H b)
  (keep:∀ b o,b∉ch->s.heap.get? b=some o->h'.get? b=some o) (r:Vals xs us) (hz:xs.length<=sizeLine) (ht:h'.get? s.heap.objs.size=some {cls:=.type "tuple",data:=.seq us.toArray}):
  Inv X pins σ (upd H s.heap.objs.size (.tup xs)) {s with heap:=h',toks:=t'} :=by
 have hn:H s.heap.objs.size=none:=I.fresh
 have nch:∀ b u,H b=some u->b∉ch:=λb u q z=>by rw[(hf b z).1]at q;cases q
 refine I.step (g':=s.gens) (d':=s.drawn) (ch:=ch) (λb hb=>?_) (λb o _ _ hc q _=>keep b o hc q) (λb o _ _ hc q _=>⟨o.slots,keep b o hc q⟩) (λb o _ q n=>?_)
  (λb o hc q=>⟨o,keep b o hc q⟩) (λb ys q=>by rw[fE (fu q hn)];exact q) (λb o ys q=>by rw[fE (fu q hn)];exact q) (λb ps q=>⟨#[],by rw[fE (fu q hn),q];simp⟩) (λm hm=>?_) (λb u q=>?_) I.bare
 ·obtain⟨f0,f1,f2,f3,f4,f5⟩:=hf b hb
  exact⟨f3,f1,f4,f5⟩
 ·rw[fE (aK (ay q))];exact n
 ·obtain⟨o,es,ep,ho,r⟩:=hm
  exact⟨o,es,ep,keep _ o (λz=>(hf _ z).2.1 rfl) ho,r⟩
 ·by_cases hb:b=s.heap.objs.size
  ·subst hb
   rw[eZ]at q
   cases q
   exact⟨hz,us,r,⟨_,ht,rfl,_,rfl⟩⟩
  ·rw[fE hb]at q
   refine(I.hok b u q).qi (λc v hc q'=>keep c v ?_ q') (λc z=>by rw[fE (fu z hn)];exact z) λc ys z=>by rw[fE (fu z hn)];exact z
   rcases hc with z |z
   ·rw[z];exact nch b u q
   ·exact nch c _ z
noncomputable def Itv (K:PySem.W.Frag)(a:Addr):It:=
 ⟨λi H=>∃ xs x,SqL K H a xs/\xs.reverse[i]? = some x,λi H x H'=>H'=H/\∀ xs,SqL K H a xs->xs.reverse[i]? = some x,λi H=>∃ xs,SqL K H a xs/\xs.length=i⟩
theorem Du {P:Program}{w:World}{K:PySem.W.Frag}{tg:Expr}(a it:Addr)(n:Nat):Turn P w K tg ⟨λi H=>(Itv K a).go i H/\∃ xs,SqL K H a xs/\xs.length=n,(Itv K a).yld,λi H=>i=n⟩ [it] it (λi h=>i<=n/\h.IsRevIter it a ((n:Int)-1-(i:Int))) where
 mem:=by simp
 obj:=λi h st b hb=>by
  have e:b=it:=by simpa using hb
  subst e
  obtain⟨_,o,e,c,d⟩:=st
  exact⟨o,e,λv z=>by rw[d]at z;cases z⟩
 keep:=λi h h' st k=>⟨st.1,st.2.at λo e=>k it (by simp) o e⟩
 item:=by
  intro X hP hw hK hc i pins s σ H E I hf st hg
  subst hP hw hK
  obtain⟨⟨xs,x,hq,hx⟩,ys,hq2,hn⟩:=hg
  have e0:=I.pE hq2 hq
  subst e0
  obtain⟨its,rv,p,hz⟩:=I.list hq
  have hil:i<ys.length:=by have:=(af.mp hx).1;rwa [b9]at this
  have hx':ys[ys.length-1-i]? = some x:=by rw[List.getElem?_reverse hil]at hx;exact hx
  obtain⟨u,hu,ru⟩:=rv.get hx'
  obtain⟨f0,f1,f2,f3,f4,f5⟩:=hf it (by simp)
  have e1:(n:Int)-1-(i:Int)=((ys.length-1-i:Nat):Int):=by omega
  have st2:=st.2
  rw[e1]at st2
  refine wpAny_pyNext_rev_item st2 p.isList (x:=u) (by simpa using hu) λh' st' sb=>?_
  have I1:Inv X pins σ H {s with heap:=h'} :=I.turned (t':=s.toks) (λb o hb e=>(sb.2 b hb).trans e) f0 f1 f3 f4 f5
  have e2:((ys.length-1-i:Nat):Int)-1=(n:Int)-1-((i+1:Nat):Int):=by omega
  rw[e2]at st'
  obtain⟨o,e,c,d⟩:=id st'
  exact⟨u,rfl,zV (s:={s with heap:=h'}) e c d (by decide) ⟨x,H,I1,ru,⟨rfl,λzs hy=>by rw[I.pE hy hq];exact hx⟩,⟨by omega,st'⟩,λb hb=>(hf b hb).1⟩⟩
 done:=by
  intro X hP hw hK hc i pins s σ H E I hf st hg
  subst hP hw hK
  have hg:i=n:=hg
  subst hg
  obtain⟨f0,f1,f2,f3,f4,f5⟩:=hf it (by simp)
  have e1:(i:Int)-1-(i:Int) = -1:=by omega
  have st2:=st.2
  rw[e1]at st2
  exact wpAny_pyNext_rev_end (I.ok.hd hc) st2 λh' eb=>⟨rfl,I.turned (t':=s.toks) (λb o hb e=>eb b o hb e) f0 f1 f3 f4 f5⟩
 self:=λ_ _ _ _ _ st h=>wpAny_pyIter_revIter st.2 h
section
variable {X:Cx}{tg:Expr}
noncomputable def OE (K:PySem.W.Frag)(ta:TA):TI:=λσ H R=>ta σ H λvs H1=>∃ a xs,vs = [.ref a]/\SqL K H1 a xs/\R ⟨λi H=>(Itv K a).go i H/\∃ ys,SqL K H a ys/\ys.length=xs.length,(Itv K a).yld,λi H=>i=xs.length⟩ H1
theorem Ha {a:Expr}{ta:TA}{p pos:Pos}(hg:Gl X "reversed")(hm:X.mg "reversed" = none)(ha:PA X [a] ta)(hs:starEach [a] X.env = [(false,eval a X.env)]:=by rfl):PI X tg (.Call (.Name "reversed" p) [a] [] pos) (OE X.K ta):=by
 intro pins s σ H R I h
 refine Call_ (qC I hg hm boot_reversed (cR (thn (ha pos pins s σ H _ I h) λus s1 ⟨vs,H1,I1,r1,q1⟩=>?_) hs rfl))
 obtain⟨a,xs,e,hq,q⟩:=q1
 subst e
 obtain⟨u,rfl,ru⟩:=vals1 r1
 cases ru
 obtain⟨its,rv,pl,hz⟩:=I1.list hq
 have hl:=rv.length
 refine call_reversed_list pl.isList ?_
 have hit:Heap.IsRevIter (s1.heap.push (revObj a ((its.toArray.size:Int)-1))) s1.heap.objs.size a (((xs.length:Nat):Int)-1-((0:Nat):Int)):=by
  refine⟨_,aR _ rfl,rfl,?_⟩
  have e1:((xs.length:Nat):Int)-1-((0:Nat):Int)=(its.toArray.size:Int)-1:=by rw[aE];omega
  rw[e1];rfl
 refine wpAny_pyIter_revIter (s:={s1 with heap:=s1.heap.push (revObj a ((its.toArray.size:Int)-1))}) hit ?_
 refine⟨s1.heap.objs.size,[s1.heap.objs.size],_,_,H1,rfl,I1.kept (t':=s1.toks) (λb o e=>ak _ e),Du a _ xs.length,⟨aP _,hit⟩,λb hb=>?_,q⟩
 have e:b=s1.heap.objs.size:=by simpa using hb
 subst e
 exact I1.EJ (ai _) (I1.hok.fresh (ai _))
end
section
variable {X:Cx}{e:Expr}{te:TE}{pos p2:Pos}
noncomputable def GQ (K:PySem.W.Frag)(te ts:TE):TE:=λσ H Q=>te σ H λx H1=>ts σ H1 λy H2=>∃ i,y = .int i/\∃ a xs,some i=some (-1:Int)/\x = .ref a/\SqL K H2 a xs/\∀ p,H2 p=none->Q (.ref p) (upd H2 p (.lst xs.reverse))
theorem DY {st:Expr}{ts:TE}(he:PE X e te)(hs:PE X st ts):PE X (.Subscript e (.Slice none none (some st) p2) pos) (GQ X.K te ts):=by
 intro pins s σ H Q I h
 refine Subscript_ (thn (he pins s σ H _ I h) λv s1 ⟨x,H1,I1,r1,q1⟩=>?_)
 refine wpAny_Slice ?_
 rw[evalPart_none]
 refine aj (aj (thn (lr hs pins s1 σ H1 (λo H2=>∃ a xs,o=some (-1)/\x = .ref a/\SqL X.K H2 a xs/\∀ p,H2 p=none->Q (.ref p) (upd H2 p (.lst xs.reverse))) I1 q1) λvk s3 ⟨o,H3,I3,pk,q3⟩=>?_))
 ·obtain⟨a,xs,rfl,rfl,hq,q⟩:=q3
  cases r1
  have I4:Inv X pins σ H3 {s3 with heap:=s3.heap.push {cls:=.type "slice",data:=.fields #[.none,.none,vk]}} :=I3.kept (t':=s3.toks) λb ob q=>ak _ q
  obtain⟨its,r,ht,hz⟩:=I4.list hq
  have hlen:=r.length
  refine tail_any (ops:=[.ref a,.ref s3.heap.objs.size]) ht.isList.typeIs slot_list_getitem.lookup ?_ (by with_unfolding_all rfl)
  refine wpAny_getItem_list_slice ht.isList (Heap.IsSliceOf.new ..) .none .none pk (by simp) ?_ (by rw[aE]<;>omega)
  rw[PySem.W.krv_pick]
  refine⟨.ref _,_,I4.laid (t':=s3.toks) (o:=.lst xs.reverse) (λb ob q=>ak _ q) (ai _) ⟨by rw[b9];exact hz,its.reverse,0,r.reverse,?_⟩,rfl,q _ (I4.hok.fresh (ai _))⟩
  exact aR _ rfl
end
theorem Ae {X:Cx} :jN X (.builtin "isinstance") (λxs H Q=>∃ x c t b,xs = [x,.ty c]/\sN X.K H x t/\PySem.W.kitOne X.K t (.type c)=some b/\Q (.bl b) H):=by
 intro pins s σ H xs us Q I r h
 obtain⟨x,c,t,b,rfl,ty,e,q⟩:=h
 obtain⟨u,u2,rfl,ru,rc⟩:=vals2 r
 cases rc
 exact CI I ru ty e λtk=>⟨.bl b,H,I.tok tk,rfl,q⟩
structure Bl (mg:Str->Option Value):Prop where
 len:mg "len" = none
 range:mg "range" = none
 sorted:mg "sorted" = none
 enumerate:mg "enumerate" = none
 reversed:mg "reversed" = none
 min:mg "min" = none
 max:mg "max" = none
 list:mg "list" = none
 int:mg "int" = none
 isinstance:mg "isinstance" = none
structure Fn (K:PySem.W.Frag)(mg:Str->Option Value)(x:Str)(st:Stmt)(ps:List Str)(f:Addr)(fd:FuncData):Prop where
 F:Fun K x x st f fd
 m:mg x=some (.ref f)
 b:Binds K fd ps []
noncomputable def below (js:List (Int×Int))(e:Int):List Int:=(js.filter λp=>decide (p.2=e)).map (·.1)
noncomputable def above (js:List (Int×Int))(e:Int):List Int:=(js.filter λp=>decide (p.1=e)).map (·.2)
noncomputable def inc (js:List (Int×Int))(e:Int):Nat:=(below js e).length+(above js e).length
noncomputable def jn (js:List (Int×Int))(e:Int):List Int:=srt (below js e++above js e)
structure ij (l:Int×List (Int×Int)):Prop where
 one:1<=l.1
 most:l.1<=40
 len:l.2.length<=80
 inc:∀ e,inc l.2 e<=160
 ends:∀ p∈l.2,0<=p.1/\p.1<=p.2/\p.2<2*l.1
theorem inc_le (js:List (Int×Int))(e:Int):inc js e<=2*js.length:=by
 unfold inc below above
 rw[aa,aa]
 have h1:=bS (λp:Int×Int=>decide (p.2=e)) js
 have h2:=bS (λp:Int×Int=>decide (p.1=e)) js
 omega
noncomputable def qh (H:Hp)(ns:List Int)(Q:VK):Prop:=∀ (p:Addr) (H':Hp),fk H H'->H p=none->H' p=some (.lst (ns.map V.int))->Q (.ref p) H'
theorem fk.upd {H H':Hp}{l:Addr}{o:HO}(s:fk H H')(hn:H l=none):fk H (upd H' l o):=λb u e=>by rw[fE (fu e hn)];exact s b u e
theorem kF {K:PySem.W.Frag}{H:Hp}{ns:List Int}{v:V} :Da K H (dI ns) v↔∃ a,v = .ref a/\SqL K H a (ns.map V.int):=by
 unfold dI
 refine Iff.trans jg ?_
 constructor
 ·rintro⟨a,vs,rfl,h,q⟩
  rw[mH.mp q]at h
  exact⟨a,rfl,h⟩
 ·rintro⟨a,rfl,h⟩
  exact⟨a,_,rfl,h,mH.mpr rfl⟩
theorem gR {K:PySem.W.Frag}{H:Hp}{ns:List Int}{p:Addr}(h:H p=some (.lst (ns.map V.int))):Da K H (dI ns) (.ref p):=kF.mpr ⟨p,rfl,SqL.of h⟩
theorem oy {K:PySem.W.Frag}{H:Hp}{l:Int×List (Int×Int)}{v:V}(h:Da K H (dL l) v):∃ a b,v = .ref a/\SqT K H a [.int l.1,.ref b]/\∃ vs,SqL K H b vs/\Das K H (l.2.map dP) vs:=by
 unfold dL at h
 obtain⟨a,vs,rfl,ht,q⟩:=gC.mp h
 obtain⟨v1,r,rfl,h1,q⟩:=fX.mp q
 obtain⟨v2,r,rfl,h2,q⟩:=fX.mp q
 cases gQ.mp q
 cases gD.mp h1
 unfold dJ at h2
 obtain⟨b,us,rfl,hl,q⟩:=jg.mp h2
 exact⟨a,b,rfl,ht,us,hl,q⟩
theorem rq {K:PySem.W.Frag}{H:Hp}{js:List (Int×Int)}{vs:List V}{i:Nat}{x:V}(h:Das K H (js.map dP) vs)(e:vs[i]? = some x):∃ a p,js[i]? = some p/\x = .ref a/\SqT K H a [.int p.1,.int p.2]:=by
 obtain⟨d,e1,hd⟩:=Dgs.get h e
 rw[aq]at e1
 cases q:js[i]? with
 |none=>rw[q]at e1;cases e1
 |some p=>
  rw[q]at e1
  cases e1
  unfold dP at hd
  obtain⟨a,us,rfl,ht,q⟩:=gC.mp hd
  obtain⟨v1,r,rfl,h1,q⟩:=fX.mp q
  obtain⟨v2,r,rfl,h2,q⟩:=fX.mp q
  cases gQ.mp q
  cases gD.mp h1
  cases gD.mp h2
  exact⟨a,p,rfl,rfl,ht⟩
theorem sd (ms:List Int):Ie (ms.map PyData.int):=⟨kI (λ_=>rfl) ms,by have:=iU (f:=PyData.int) (k:=0) (λ_=>by simp[PyData.depth]) ms;omega⟩
theorem xo (ms:List Int)(x:Int):((ms.map PyData.int).any λz=>PyData.eqv z (.int x))=decide (x∈ms):=by
 rw[List.any_map,cn,List.any_eq_true,eE]
 constructor
 ·rintro⟨y,hy,e⟩
  have e':PyData.eqv (.int y) (.int x)=true:=e
  simp only[PyData.eqv,cO]at e'
  rw[<-e'];exact hy
 ·intro h
  exact⟨x,h,by show PyData.eqv (.int x) (.int x)=true;simp[PyData.eqv]⟩
theorem iY {i:Nat}{x:V}{σ:St}{H:Hp}{te:TE}{P1:VK}{P0:Hp->Prop}(h:te (σ.set i (some x)) H P1):pG i x σ H (λσ2 H2=>Ce σ2 H2 λb H3=>if b=true then te σ2 H3 P1 else P0 H3):=tW (A:=te (σ.set i (some x)) H P1) (B:=P0 H) h
theorem iH {α:Type}(xs:List α):(xs.filter λ_=>true)=xs:=by simp
section
variable {X:Cx}{K:PySem.W.Frag}
theorem uN (hK:X.K=K)(hu:X.A.units+64<cLine):OpR X (compareOp .NotIn) (IQ K true):=hK ▸ mf hu
theorem FC (hK:X.K=K)(hu:X.A.units+64<cLine):OpR X (compareOp .Eq) (IS K):=hK ▸ uO hu
end
structure JS (J:It)(n:Nat)(H1:Hp)(it:Nat->V->Prop):Prop where
 go:∀ i H,fk H1 H->i<n->J.go i H
 yld:∀ i H x H',fk H1 H->i<n->J.yld i H x H'->H'=H/\it i x
 stop:∀ H,fk H1 H->J.stop n H
theorem gI {K:PySem.W.Frag}{a:Addr}{xs:List V}{H1:Hp}(hx:SqL K H1 a xs):JS (Itl K a) xs.length H1 (λi x=>xs[i]? = some x):=
 ⟨λi H s hi=>⟨xs,xs[i],s.seq hx,by simp⟩,λi H x H' s hi y=>⟨y.1,y.2 xs (s.seq hx)⟩,λH s=>⟨xs,s.seq hx,ai _⟩⟩
theorem HA {K:PySem.W.Frag}{a:Addr}{xs:List V}{H1:Hp}(hx:SqL K H1 a xs):JS ⟨λi H=>(Itv K a).go i H/\∃ ys,SqL K H a ys/\ys.length=xs.length,(Itv K a).yld,λi H=>i=xs.length⟩ xs.length H1 (λi x=>xs.reverse[i]? = some x):=
 ⟨λi H s hi=>⟨⟨xs,xs.reverse[i]'(by rw[b9];exact hi),s.seq hx,ao _⟩,xs,s.seq hx,rfl⟩,λi H x H' s hi y=>⟨y.1,y.2 xs (s.seq hx)⟩,λH s=>rfl⟩
theorem zJ {α:Type}{J:It}{n:Nat}{it:Nat->V->Prop}{l:Addr}{g:TG}{tt:TT}{te:TE}{cap:List (Option Nat)}{σ:St}{Q:VK}{H1:Hp}(S:JS J n H1 it)(ds:List α)(p:α->Bool)(f:α->V)(hn:H1 l=none)(hlen:n=ds.length)(hz:n<sizeLine)
  (hs:∀ (i:Nat) x d H,it i x->ds[i]? = some d->fk H1 H->∀ (P1:VK) (P0:Hp->Prop),(p d=true->P1 (f d) H)->(p d=false->P0 H)->
   g x (jh cap σ) H λσ2 H2=>tt σ2 H2 λb H3=>if b=true then te σ2 H3 P1 else P0 H3)
  (hq:Q (.ref l) (upd H1 l (.lst ((ds.filter p).map f)))):LcW J g tt te cap σ Q l H1:=by
 refine⟨λi m acc H=>m=n-i/\i<=n/\acc=((ds.take i).filter p).map f/\H=upd H1 l (.lst acc),⟨n,by simp,aP _,rfl,rfl⟩,?_⟩
 rintro i m acc H ⟨rfl,hi,e1,e2⟩
 have sm:fk H1 H:=by rw[e2];exact eY hn
 by_cases hlt:i<n
 ·refine .inr ⟨S.go i H sm hlt,λwz H'=>wz=((ds.take (i+1)).filter p).map f/\H'=upd H1 l (.lst wz),λwz H' ⟨p1,p2⟩=>⟨n-(i+1),by omega,rfl,hlt,p1,p2⟩,λx H' y0=>?_⟩
  obtain⟨e,y⟩:=S.yld i H x H' sm hlt y0
  clear y0
  subst e
  have hd:ds[i]? = some (ds[i]'(by omega)):=by simp
  generalize ds[i]'(by omega)=d at hd
  have step:((ds.take (i+1)).filter p).map f=acc++(if p d=true then[f d]else[]):=by
   rw[take_succ_filter p ds i d hd,aX,e1]
   cases p d<;>rfl
  refine hs i x d H' y hd sm _ _ (λhp=>?_) (λhp=>?_)
  ·refine⟨by rw[e2,eZ],?_,?_,?_⟩
   ·have h1:acc.length<=i:=by
     rw[e1,aa]
     exact bq (bS _ _) (by rw[aN];omega)
    omega
   ·rw[step,hp];rfl
   ·rw[e2,nU]
  ·refine⟨?_,e2⟩
   rw[step,hp,au aC,bN]
 ·have e:i=n:=by omega
  subst e
  refine .inl ⟨S.stop H sm,?_⟩
  rw[hlen,bW]at e1
  rw[e2,e1]
  exact hq
noncomputable abbrev Mv:=(Str×Int)×List Int
noncomputable def dMv (m:Mv):PyData:=.tuple [.tuple [.str m.1.1,.int m.1.2],dI m.2]
noncomputable def fr (l:Int×List (Int×Int))(ns:List Int)(e:Int):List Int:=(jn l.2 e).filter λt=> !decide (t/2∈ns.map (· / 2))
noncomputable def onM (ns:List Int)(e:Int):Mv:=(("on",e),ns.drop 1 ++ [e])
noncomputable def vJ (ns:List Int)(e:Int):Mv:=(("back",e),oth e::ns.dropLast)
noncomputable def mvs (l:Int×List (Int×Int))(ns:List Int):List Mv:=(fr l ns (oth (ns.getLastD 0))).map (onM ns)++(fr l ns (ns.headD 0)).map (vJ ns)
noncomputable def Lf (H H2:Hp)(t:Addr):Addr->List V->Prop:=λa us=>H2 a=some (.lst us)/\H a=none/\a≠t
theorem qM {K:PySem.W.Frag}{H:Hp}{t b:Addr}{vs xs:List V}{o:HO}(ht:H t=some (.lst vs))(h:SqT K H b xs):SqT K (upd H t o) b xs:=by
 rcases h with(h |⟨o,h⟩)|h
 ·exact .inl (.inl (by rw[fE (zE h ht (by intro z;cases z))];exact h))
 ·exact .inl (.inr ⟨o,by rw[fE (zE h ht (by intro z;cases z))];exact h⟩)
 ·exact .inr h
theorem Dgs.grow {K:PySem.W.Frag}{H H2 H5:Hp}{t:Addr}{o:HO}{vs:List V}{ds:List PyData}{us:List V}(D:Dgs (Lf H H2 t) (SqT K H2) ds us)(S5:fk H2 H5)(ht:H5 t=some (.lst vs)):
  Dgs (Lf H (upd H5 t o) t) (SqT K (upd H5 t o)) ds us:=
 Dgs.mono (λa us ⟨h1,h2,h3⟩=>⟨by rw[fE h3];exact S5 _ _ h1,h2,h3⟩) (λa us h=>qM ht (gT S5 h)) D
theorem pZ {K:PySem.W.Frag}{H H2 H5:Hp}{t p1 p4 p5:Addr}{vs:List V}{ms:List Mv}{w:Str}{e:Int}{xs:List Int}(S:fk H H2)(hn:H t=none)(ht:H2 t=some (.lst vs))(D:Dgs (Lf H H2 t) (SqT K H2) (ms.map dMv) vs)
  (S5:fk H2 H5) (h1:H5 p1=some (.tup [.str w,.int e])) (n4:H2 p4=none) (h4:H5 p4=some (.lst (xs.map V.int))) (h5:H5 p5=some (.tup [.ref p1,.ref p4])):
  fk H (upd H5 t (.lst (vs ++ [.ref p5])))/\(upd H5 t (.lst (vs ++ [.ref p5]))) t=some (.lst (vs ++ [.ref p5]))/\
   Dgs (Lf H (upd H5 t (.lst (vs ++ [.ref p5]))) t) (SqT K (upd H5 t (.lst (vs ++ [.ref p5])))) ((ms ++ [((w,e),xs)]).map dMv) (vs ++ [.ref p5]):=by
 have ht5:=S5 _ _ ht
 have q4:p4≠t:=(fu ht n4).symm
 refine⟨fk.upd (S.trans S5) hn,eZ,?_⟩
 rw[aX]
 refine Dgs.append (D.grow S5 ht5) (Dgs.one ?_)
 refine gC.mpr ⟨p5,_,rfl,qM ht5 (SqT.of h5),Dgs.two ?_ ?_⟩
 ·exact gC.mpr ⟨p1,_,rfl,qM ht5 (SqT.of h1),Dgs.two (sD.mpr rfl) (gD.mpr rfl)⟩
 ·exact jg.mpr ⟨p4,_,rfl,⟨by rw[fE q4];exact h4,fk.free S n4,q4⟩,mH.mpr rfl⟩
noncomputable def Aj (K:PySem.W.Frag)(H:Hp)(ms:List Mv)(Q:VK):Prop:=∀ (p:Addr) (vs:List V) (H':Hp),fk H H'->H p=none->H' p=some (.lst vs)->Dgs (Lf H H' p) (SqT K H') (ms.map dMv) vs->Q (.ref p) H'
theorem rA (ns:List Int):oZ (ns.map V.int) (some 1) none=(ns.drop 1).map V.int:=by
 unfold oZ
 rw[HT.qW]
 have e:HT.sIx (ns.map V.int).length 0 (some 1)=min 1 (ns.map V.int).length:=HT.xM _ _ 1
 rw[e,aa,dY]
 cases ns with
 |nil=>rfl
 |cons a r=>
  have e1:min 1 (a::r).length=1:=by simp
  rw[e1]
  simp
  exact aO (by simp)
theorem zY (ns:List Int):oZ (ns.map V.int) none (some (-1))=ns.dropLast.map V.int:=by
 unfold oZ
 have e:HT.sIx (ns.map V.int).length (ns.map V.int).length (some (-1))=ns.length-1:=by
  have h:=HT.F5 (-1) (ns.map V.int).length (ns.map V.int).length
  rw[aa]at h ⊢
  rw[aA (by decide)]at h
  omega
 rw[e,HT.qW,List.drop_zero,Nat.sub_zero,<-dX,List.dropLast_eq_take]
theorem qg {ns:List Int}(h:ns≠ []):atI (ns.map V.int) (-1)=some (V.int (ns.getLastD 0)):=by
 obtain⟨r,x,rfl⟩:∃ r x,ns=r ++ [x]:=⟨ns.dropLast,ns.getLast h,(List.dropLast_concat_getLast h).symm⟩
 rw[aX]
 show atI (r.map V.int ++ [V.int x]) (-1)=_
 rw[Ah]
 have e:(r ++ [x]).getLastD 0=x:=by simp[eL]
 rw[e]
theorem Ag {ns:List Int}(h:ns≠ []):atI (ns.map V.int) 0=some (V.int (ns.headD 0)):=by
 cases ns with
 |nil=>exact absurd rfl h
 |cons a r=>exact jS (j:=0) rfl
noncomputable abbrev NoL:Addr->List V->Prop:=λ_ _=>False
noncomputable abbrev Ps (K:PySem.W.Frag)(H:Hp)(js:List (Int×Int))(vs:List V):Prop:=Dgs NoL (SqT K H) (js.map dP) vs
theorem Ps.same {K:PySem.W.Frag}{H H':Hp}{js:List (Int×Int)}{vs:List V}(D:Ps K H js vs)(S:fk H H'):Ps K H' js vs:=Dgs.mono (λ_ _ h=>h) (λ_ _ h=>gT S h) D
theorem Ps.JR {K:PySem.W.Frag}{H:Hp}{js:List (Int×Int)}{vs us:List V}{t:Addr}{o:HO}(D:Ps K H js vs)(ht:H t=some (.lst us)):Ps K (upd H t o) js vs:=Dgs.mono (λ_ _ h=>h) (λ_ _ h=>qM ht h) D
theorem Ps.das {K:PySem.W.Frag}{H:Hp}{js:List (Int×Int)}{vs:List V}(D:Ps K H js vs):Das K H (js.map dP) vs:=Dgs.mono (λ_ _ h=>h.elim) (λ_ _ h=>h) D
theorem Ps.da {K:PySem.W.Frag}{H:Hp}{js:List (Int×Int)}{vs:List V}{t:Addr}(D:Ps K H js vs)(ht:H t=some (.lst vs)):Da K H (dJ js) (.ref t):=jg.mpr ⟨t,vs,rfl,SqL.of ht,D.das⟩
theorem Ps.len {K:PySem.W.Frag}{H:Hp}{js:List (Int×Int)}{vs:List V}(D:Ps K H js vs):vs.length=js.length:=by rw[D.length,aa]
theorem Fz {K:PySem.W.Frag}{H:Hp}{p:Addr}{x:Int×Int}(h:H p=some (.tup [.int x.1,.int x.2])):Dg NoL (SqT K H) (dP x) (.ref p):=gC.mpr ⟨p,_,rfl,SqT.of h,Dgs.two (gD.mpr rfl) (gD.mpr rfl)⟩
theorem Ps.ins {K:PySem.W.Frag}{H:Hp}{js:List (Int×Int)}{vs:List V}{t p:Addr}{x:Int×Int}{o:HO}(i:Nat)(D:Ps K H js vs)(ht:H t=some (.lst vs))(hp:H p=some (.tup [.int x.1,.int x.2])):Ps K (upd H t o) (js.take i++x::js.drop i) (vs.take i ++ .ref p::vs.drop i):=by
 show Dgs _ _ ((js.take i++x::js.drop i).map dP) _
 rw[aX,bt,dX,dY]
 exact Dgs.insert i (D.JR ht) (Dg.mono (λ_ _ h=>h) (λ_ _ h=>qM ht h) (Fz hp))
theorem CU {K:PySem.W.Frag}{H:Hp}{l:Int×List (Int×Int)}{p t:Addr}(h:H p=some (.tup [.int l.1,.ref t]))(hd:Da K H (dJ l.2) (.ref t)):Da K H (dL l) (.ref p):=gC.mpr ⟨p,_,rfl,SqT.of h,Dgs.two (gD.mpr rfl) hd⟩
theorem DW {α:Type}(l:List α)(i:Nat)(x:α):(l.take i++x::l.drop i).Perm (x::l):=by
 have h:=cW (a:=x) (l₁:=l.take i) (l₂:=l.drop i)
 rw[cy]at h
 exact h
theorem Hm (i j:Int):(if j<i then j else i)=min i j:=by omega
theorem Ho (i j:Int):(if j>i then j else i)=max i j:=by omega
theorem HZ {ns:List Int}{i:Int}(h0:0<=i)(h1:i<ns.length):∃ x,ns[i.toNat]? = some x/\x∈ns/\atI (ns.map V.int) i=some (V.int x):=by
 have hlt:i.toNat<ns.length:=by omega
 refine⟨ns[i.toNat],by simp,dQ _,?_⟩
 have h:=jS (xs:=ns.map V.int) (j:=i.toNat) (v:=V.int ns[i.toNat]) (by rw[aq];simp)
 have e1:((i.toNat:Nat):Int)=i:=by omega
 rw[e1]at h
 exact h
end TL
namespace L2
open PySem PySem.Spec PySem.Calls PyProof.Rows PySem.W
variable {Q:Unit->Shared->Prop}
section
variable {prog:Program}{w:World}{A:Around}{E:Value->Shared->Prop}{s:Shared}{K:Frag}{a C:Addr}{o:Obj}
theorem xty {M:Model}{h:Heap}(hx:h.get? a=some o)(hc:o.cls = .ref C):Looks M h (typeOf (.ref a)) (.ref C):=hc ▸ (Looks.ld hx).andThen .now
open Builtin Builtin.ObjectAttr Builtin.Getset_descriptor in
theorem E8 {R:Result->Shared->Prop}{tp:Value}(X:K.In s.heap)(hx:s.heap.get? a=some o)(hc:o.cls = .ref C)(hm:mroIn K C (.type "object")=some true)
  (h:R (.ok (.ret (.ref C))) s):codeAny (model prog w) A (.call (.builtin "getset_descriptor.__get__") ⟨[.builtin "object.__class__",.ref a,tp],[]⟩) R s:=by
 obtain⟨hh,g,dr,t,os⟩:=s
 have L0:=xty (M:=model prog w) hx hc
 have L1:=looks_mroIn (M:=model prog w) X hm
 refine codeAny_call_builtin KF.slot_gs.plain KF.entry_gs (KF.slot_gs.check _ _ _ _ _ _ _ _ KF.type_class (KF.args_gs _ _ _) ?_)
 unfold Builtin.«getset_descriptor.__get__» descrGet
 rw[dga_obj]
 refine ae (aj ?_)
 unfold descrGetter descrCheckInstance descrNameAndClass isInstance
 simp only[KF.owner_class]
 repeat lk
 refine⟨Code.quiet_builtin _ (by decide +kernel),codeAny_builtin KF.entry_class ?_⟩
 unfold Builtin.«object.__class__» shownTypeOf
 repeat lk
 exact h
theorem B4 {tk:Tok}{Q:PySem.Fin->Shared->Prop}(X:K.In s.heap)(hx:s.heap.get? a=some o)(hc:o.cls = .ref C)(hm:mroIn K C (.type "object")=some true)
  (ha:findIn K (.ref C) "__class__" = some (some (.builtin "object.__class__"))) (hq:Q (.done (.ret (.ref C))) s):
  wpAny (model prog w) A (Builtin.«object.__getattribute__» ⟨[.ref a,.str "__class__" tk],[]⟩) Q E s:=by
 obtain⟨h,g,d,t,os⟩:=s
 have hT5:(⟨h,g,d,t,os⟩:Shared).TypeIs (.builtin "object.__class__") "getset_descriptor" :=F.typeOf_object_class
 have L0:=xty (M:=model prog w) hx hc
 have L1:=looks_findIn (M:=model prog w) X ha
 have f5:=F.typeOf_object_class
 have f6:=F.slot_gs_get.lookup
 have f7:=F.slot_gs_set.lookup
 repeat (any_goals (first |assumption |with_reducible refine L0.at ?_ |with_reducible refine L1.at ?_ |(with_reducible refine wpAny_loadPart_at hx ?_;rw[hc])|wp_step))
 refine E8 (K:=K) X hx hc hm ?_
 repeat (any_goals (first |assumption |wp_step))
theorem B5 {M:Model}{Gu:Value}(X:K.In s.heap)(hx:s.heap.get? a=some o)(hc:o.cls = .ref C)(hb:mroIn K C (.type "BaseException")=some true)(hq:Q () s):
  wpAny M A (checkBuiltinCall "BaseException.__getattribute__" ⟨[.ref a,Gu],[]⟩) Q E s:=by
 obtain⟨h,g,d,t,os⟩:=s
 have hk:builtinKind "BaseException.__getattribute__" = some .slot:=by decide +kernel
 have HC:splitId "BaseException.__getattribute__" = some ("BaseException","__getattribute__"):=by decide +kernel
 have ha:=F.args_bexc_ga (.ref a) Gu
 have L0:=xty (M:=M) hx hc
 have L1:=looks_mroIn (M:=M) X hb
 simp only[checkBuiltinCall,hk,HC]
 refine ae ?_
 ·unfold isInstance
  repeat (first |with_reducible refine L0.at ?_ |with_reducible refine L1.at ?_ |wp_step)
  exact hq
theorem Dp {tk:Tok}{R:Result->Shared->Prop}(X:K.In s.heap)(hx:s.heap.get? a=some o)(hc:o.cls = .ref C)(hm:mroIn K C (.type "object")=some true)(hb:mroIn K C (.type "BaseException")=some true)
  (ha:findIn K (.ref C) "__class__" = some (some (.builtin "object.__class__"))) (hq:R (.ok (.ret (.ref C))) s):
  codeAny (model prog w) A (.call (.builtin "BaseException.__getattribute__") ⟨[.ref a,.str "__class__" tk],[]⟩) R s:=
 codeAny_call_builtin (by decide +kernel) F.entry_bexc_ga (B5 X hx hc hb (B4 X hx hc hm ha hq))
theorem GL {tk:Tok}{Q:Value->Shared->Prop}(X:K.In s.heap)(hx:s.heap.get? a=some o)(hc:o.cls = .ref C)(hm:mroIn K C (.type "object")=some true)(hb:mroIn K C (.type "BaseException")=some true)
  (ha:findIn K (.ref C) "__class__" = some (some (.builtin "object.__class__"))) (hg:findIn K (.ref C) "__getattribute__" = some (some (.builtin "BaseException.__getattribute__"))) (hn:findIn K (.ref C) "__getattr__" = some none)
  (hq:Q (.ref C) s):wpAny (model prog w) A (getAttrBy (.ref a) (.str "__class__" tk) false) Q E s:=by
 have X':=X
 have hx':=hx
 obtain⟨h,g,d,t,os⟩:=s
 have f3:=PySem.F.attr_ValueError.ga.bind (.ref a)
 have hx2:(Value.builtin "BaseException.__getattribute__" == Value.builtin "object.__getattribute__")=false:=by decide +kernel
 have hx1:(onTheHeap (Value.ref C)&&Value.builtin "BaseException.__getattribute__" == Value.builtin "object.__getattribute__")=false:=by rw[hx2];rfl
 have L0:=xty (M:=model prog w) hx hc
 have L1:=looks_findIn (M:=model prog w) X hg
 have L2:=looks_findIn (M:=model prog w) X hn
 repeat (any_goals (first |assumption |with_reducible refine L0.at ?_ |with_reducible refine L1.at ?_ |with_reducible refine L2.at ?_ |wp_step))
 refine Dp (K:=K) X' hx' hc hm hb ha ?_
 repeat (any_goals (first |assumption |wp_step))
theorem Dq {Q:Option Value->Shared->Prop}(X:K.In s.heap)(hx:s.heap.get? a=some o)(hc:o.cls = .ref C)(hm:mroIn K C (.type "object")=some true)(hb:mroIn K C (.type "BaseException")=some true)
  (ha:findIn K (.ref C) "__class__" = some (some (.builtin "object.__class__"))) (hg:findIn K (.ref C) "__getattribute__" = some (some (.builtin "BaseException.__getattribute__"))) (hn:findIn K (.ref C) "__getattr__" = some none)
  (hq:Q (some (.ref C)) {s with toks:=s.toks+1}):wpAny (model prog w) A (getAttr? (.ref a) "__class__") Q E s:=by
 have X':=X
 have hx':=hx
 obtain⟨h,g,d,t,os⟩:=s
 unfold getAttr? getAttrBy?
 repeat (any_goals (first |assumption |with_reducible apply GL (K:=K) (s:=⟨h,g,d,t+1,os⟩) X' hx' hc hm hb ha hg hn |wp_step))
structure ExC (K:Frag)(C:Addr):Prop where
 obj:mroIn K C (.type "object")=some true
 bex:mroIn K C (.type "BaseException")=some true
 cls:findIn K (.ref C) "__class__" = some (some (.builtin "object.__class__"))
 ga:findIn K (.ref C) "__getattribute__" = some (some (.builtin "BaseException.__getattribute__"))
 gn:findIn K (.ref C) "__getattr__" = some none
 isc:(clsIn K C).isSome=true
noncomputable def XAt (a:Addr)(C:Addr)(h:Heap):Prop:=∃ o,h.get? a=some o/\o.cls = .ref C
theorem Ex (e:ExC K C):KitX K (.ref a) (.ref C) (XAt a C) where
 ty:=λ_ _ _ ⟨_,h1,h2⟩=>xty h1 h2
 it:=λ_ _ X _=>by
  have hC:=e.isc
  unfold clsIn at hC
  split at hC
  ·rename_i c' d' cd' sl' ho
   intro A' Q' E' s' k q
   unfold isType loadHead
   exact ae (wpAny_loadPart (k _ _ (X _ _ ho)) (aj q))
  ·cases hC
 ne:=λh tp dd its n sl X htp=>by
  have hC:=e.isc
  refine Bool.eq_false_iff.mpr λq=>?_
  have e':C=tp:=Value.ref.inj (cO.mp q)
  subst e'
  unfold clsIn at hC
  split at hC
  ·rename_i c' d' cd' sl' ho
   have z:=(X _ _ ho).symm.trans htp
   cases z
  ·cases hC
 ca:=λX ⟨_,h1,h2⟩ k=>Dq X h1 h2 e.obj e.bex e.cls e.ga e.gn k
end
section
variable {P:Program}{w:World}{H H1:Hp}{h:Heap}{a:Addr}{o:HO}
theorem iZ.some (x:iZ P w H h a o):∃ u,h.get? a=Option.some u:=by
 cases o with
 |lst xs=>obtain⟨_,_,_,_,e⟩:=x;exact⟨_,e⟩
 |tup xs=>obtain⟨_,_,_,p⟩:=x;obtain⟨u,e,_⟩:=p;exact⟨u,e⟩
 |dK kvs=>obtain⟨_,_,_,_,o,_,_,e,_⟩:=x;exact⟨_,e⟩
 |dT kvs=>obtain⟨_,_,_,_,o,_,_,e,_⟩:=x;exact⟨_,e⟩
 |set S n=>obtain⟨o,_,_,_,e,_⟩:=x;exact⟨_,e⟩
 |ins C dx fs=>obtain⟨_,_,_,e,_⟩:=x;exact⟨_,e⟩
 |own y=>obtain⟨_,e⟩:=x;exact⟨_,e⟩
 |xd fs=>obtain⟨_,⟨_,_,_,e,_⟩,_⟩:=x;exact⟨_,e⟩
 |rng lo hi=>obtain⟨_,_,_,e⟩:=x;exact⟨_,e⟩
 |frz ob u=>obtain⟨e,_⟩:=x;exact⟨_,e⟩
 |tbl ps=>exact⟨_,(show h.get? a=Option.some _ from x)⟩
 |met f y=>exact⟨_,(show h.get? a=Option.some _ from x)⟩
 |ext φ=>obtain⟨_,⟨_,e⟩,_⟩:=x;exact⟨_,e⟩
theorem HOk.none_of (x:HOk P w H h)(e:h.get? a=Option.none):H a=Option.none:=by
 cases q:H a with
 |none=>rfl
 |some u=>obtain⟨v,z⟩:=(x a u q).some;rw[e]at z;cases z
end
structure Fl0 (P:Program)(w:World)(base:Heap)(l:List Env)(H H1:Hp)(h0 B h:Heap):Prop where
 bas:base.StaysIn B
 hok:HOk P w H1 B
 kp:∀ b o,h0.get? b=some o->H b=none->b∉frs l->B.get? b=some o
 thr:∀ b o,h0.get? b=some o->b∉frs l->∃ o',B.get? b=some o'
 un:Un (frs l) [] H H1 h0 h
theorem Fl0.step {P:Program}{w:World}{base:Heap}{l:List Env}{H H1:Hp}{h0 B h h':Heap}(x:Fl0 P w base l H H1 h0 B h)(st:B.StaysIn h')(ff:h.FunFrames B l)(ff':h'.FunFrames B l)(sm:h.UpToSlots h'):
  Fl0 P w base l H H1 h0 B h':=by
 refine⟨x.bas,x.hok,x.kp,x.thr,⟨λb o q n hb _=>st b o (x.kp b o q n hb),λb o q n hb _=>?_,x.un.free,λb o q _=>?_,x.un.qs,x.un.qk,x.un.qt⟩⟩
 ·obtain⟨sl,e⟩:=x.un.slot b o q n hb (by simp)
  obtain⟨_,o2,e2,nf⟩:=ff.mem hb
  rw[e]at e2;cases e2
  obtain⟨sl',e'⟩:=sm b _ e nf
  exact⟨sl',e'⟩
 ·by_cases hb:b∈frs l
  ·obtain⟨_,o2,e2,_⟩:=ff'.mem hb
   exact⟨o2,e2⟩
  ·obtain⟨o',e⟩:=x.thr b o q hb
   exact⟨o',st b o' e⟩
structure Fl (P:Program)(w:World)(base:Heap)(l:List Env)(H H1:Hp)(h0:Heap)(e C:Addr)(B h:Heap):Prop extends Fl0 P w base l H H1 h0 B h where
 fly:∃ a0,Heap.FlyingW B l e (.ref C) a0 h
noncomputable def CXr (P:Program)(w:World)(base:Heap):CXT:=λl H s E ev s'=>
 ∃ e C H1 B,ev = .ref e/\s'.os=s.os/\AllBare s'.gens/\Fl P w base l H H1 s.heap e C B s'.heap/\E (.ref C) (some e) H1
section
variable {X:Cx}{pins:List (Addr×Obj)}{σ:St}{H H1:Hp}{s s':Shared}{e C:Addr}{B:Heap}
theorem Fl.inv (x:Fl X.prog X.w X.base X.stack H H1 s.heap e C B s'.heap)(I:Inv X pins σ H s)(ho:s'.os=s.os)(hg:AllBare s'.gens):Inv X pins σ H1 s':=by
 obtain⟨a0,f⟩:=x.fly
 exact I.E2 (ch:=[]) ho x.un (x.hok.kept f.1) hg (λb z=>absurd z (by simp))
theorem DO {M:Model}{E:Value->Shared->Prop}{h':Heap}{vs:List Value}(I:Inv X pins σ H s)(hst:X.stack=X.env::X.outer)(hf:X.env.frame=some X.env.locals)(hex:X.ex = [])
  (hx:Heap.MadeExcOf s.heap h' e (.ref C) vs) (hQ:∀ B h'',Fl X.prog X.w X.base X.outer X.H₀ H X.s₀.heap e C B h''->Q () {s with heap:=h''}):
  wpAny M X.A (leaving X.env (.ref e)) Q E {s with heap:=h'} :=by
 have hfr:=I.ok.frames
 rw[hst]at hfr
 have FO:=I.stack
 rw[hst]at FO
 have hin:∀ env∈(X.env::X.outer),∀ b,env.frame=some b->b∈frs (X.env::X.outer):=λenv he b hb=>eG.mpr ⟨env,he,hb⟩
 have nb:∀ b,b≠X.env.locals->b∉X.fs->b∉frs (X.env::X.outer):=λb h1 h2 hb=>by
  unfold frs at hb
  rw[cu,hf]at hb
  rcases aI.mp hb with z |z
  ·exact h1 z
  ·exact h2 z
 have neL:∀ b o,X.s₀.heap.get? b=some o->b≠X.env.locals:=λb o e=>aK (aT (ay e) I.ok.above)
 refine wpAny_leaves_madeW (base:=hideAll s.heap (frs (X.env::X.outer))) hfr hf (λb o q=>of_hideAll _ q) (funFrames_hide FO hin) hx λh'' t x1 x2 x3 x4=>?_
 have hok:HOk X.prog X.w H (hideAll s.heap (frs (X.env::X.outer))):=λb u q=>by
  refine(I.hok b u q).qi (λc v hc z=>hideAll_get _ z λhm=>?_) (λ_ z=>z) λ_ _ z=>z
  have hn:H c=none:=I.xu c (by rw[hst];exact hm)
  rcases hc with rfl |hc
  ·rw[hn]at q;cases q
  ·rw[hn]at hc;cases hc
 have z0:Fl0 X.prog X.w X.base X.outer X.H₀ H X.s₀.heap (hideAll s.heap (frs (X.env::X.outer))) h':=by
  have ub:Un X.fs [] X.H₀ H X.s₀.heap s.heap:=by have:=I.base;rw[hex]at this;exact this
  refine⟨λb o q=>hideAll_get _ (I.bk b o q) λhm=>?_,hok,λb o q n hb=>hideAll_get _ (ub.keep b o q n hb (by simp)) (nb b (neL b o q) hb),λb o q hb=>?_,ub.trans (Un.kept hx.keeps)⟩
  ·have:=(FO.mem hm).1
   rw[q]at this;cases this
  ·obtain⟨o',e1⟩:=ub.there b o q (by simp)
   exact⟨o',hideAll_get _ e1 (nb b (neL b o q) hb)⟩
 have ff:h'.FunFrames (hideAll s.heap (frs (X.env::X.outer))) X.outer:=by
  obtain⟨_,_,z⟩:=(funFrames_hide FO hin).of_keeps λb o hb _=>⟨o,hx.keeps b o hb,rfl⟩
  exact z
 exact hQ _ h'' ⟨z0.step x1.1 ff x1.2.2.1 x4,_,x1⟩
theorem Fx {M:Model}{E:Value->Shared->Prop}(I:Inv X pins σ H s)(hst:X.stack=X.env::X.outer)(hf:X.env.frame=some X.env.locals)(hex:X.ex = [])
  (ho:s'.os=s.os) (hg:AllBare s'.gens) (x:Fl X.prog X.w X.base X.stack H H1 s.heap e C B s'.heap) (hQ:∀ B h'',Fl X.prog X.w X.base X.outer X.H₀ H1 X.s₀.heap e C B h''->Q () {s' with heap:=h''}):
  wpAny M X.A (leaving X.env (.ref e)) Q E s':=by
 have J:=x.inv I ho hg
 have hfr:=I.ok.frames
 obtain⟨a0,f⟩:=x.fly
 have nb:∀ b,b≠X.env.locals->b∉X.fs->b∉frs X.stack:=λb h1 h2 hb=>(aI.mp (I.nX b hb)).elim h1 h2
 have neL:∀ b o,X.s₀.heap.get? b=some o->b≠X.env.locals:=λb o e=>aK (aT (ay e) I.ok.above)
 rw[hst]at hfr f
 have ub:Un X.fs [] X.H₀ H X.s₀.heap s.heap:=by have:=I.base;rw[hex]at this;exact this
 have uj:Un X.fs [] X.H₀ H1 X.s₀.heap s'.heap:=by have:=J.base;rw[hex]at this;exact this
 have z0:Fl0 X.prog X.w X.base X.outer X.H₀ H1 X.s₀.heap B s'.heap:=by
  refine⟨x.bas,x.hok,λb o q n hb=>x.kp b o (ub.keep b o q n hb (by simp)) (ub.free b o q n (by simp)) (nb b (neL b o q) hb),λb o q hb=>?_,uj⟩
  obtain⟨o',e1⟩:=ub.there b o q (by simp)
  exact x.thr b o' e1 (nb b (neL b o q) hb)
 have ff:s'.heap.FunFrames B X.outer:=f.2.2.1.2.2
 exact wpAny_leaves_onW hfr hf f λh'' x1 x2=>hQ B h'' ⟨z0.step x1.1 ff x1.2.2.1 x2,a0,x1⟩
end
section
variable {P:Program}{w:World}{K:PySem.W.Frag}{mg:Str->Option Value}{base:Heap}{N:List Str}{qual:Str}{scope:Scope}{f:Addr}{cd:Value}{A:Around}{outer:List Env}{s₀:Shared}{H₀:Hp}{E:XK}
noncomputable def Raises (X:Cx)(E:XK):Prop:=∀ (pins:List (Addr×Obj)) (σ:St) (H:Hp) (s:Shared) (h':Heap) (e C:Addr) (vs:List Value),Inv X pins σ H s->Heap.MadeExcOf s.heap h' e (.ref C) vs->E (.ref C) (some e) H->X.xe (.ref e) {s with heap:=h'}
theorem gu:Raises (wt (CXr P w base) P w K mg base N qual scope f cd A outer s₀ H₀ E) E:=λpins σ H s h' e C vs I hx q=>
 DO I rfl rfl rfl hx λB h'' z=>⟨e,C,H,B,rfl,I.os,I.bare,z,q⟩
theorem fU:Passes (CXr P w base) (wt (CXr P w base) P w K mg base N qual scope f cd A outer s₀ H₀ E) E:=λpins σ H s e s' I hx=>by
 obtain⟨a,C,H1,B,rfl,ho,hg,z,q⟩:=hx
 exact Fx I rfl rfl rfl ho hg z λB' h'' z'=>⟨a,C,H1,B',rfl,ho.trans I.os,hg,z',q⟩
end
theorem FZ {K:Frag}{h:Heap}{C:Addr}{bmB:List Value}{newId:String}(X:K.In h)(q:excIn K C bmB newId=true):
  ∃ bm N nm qn bs hdct sn sub ab col dd k0 k1 k2 k3 k5 mN,h.get? C=some (excClassObj nm qn C N bs bm hdct sn sub ab col dd k0 k1 k2 k3 k5 newId)/\h.Ns N mN/\mN "__init__" = none/\OwnTail h bmB bm:=by
 unfold excIn at q
 split at q
 ·rename_i d1 c1 l1 lk
  split at q
  ·rename_i D1 tl j0 j1 j2 j3 nn j5 e1 e2
   simp only[cM,cO,Bool.not_eq_true']at q
   obtain⟨⟨⟨⟨⟨q1,q2⟩,q3⟩,q4⟩,q5⟩,q6⟩:=q
   subst q1 q2
   cases c1
   dsimp only at e1 q3 q5 q6
   subst e1 q3
   cases l1
   dsimp only at e2
   subst e2
   exact⟨tl,_,_,_,_,_,_,_,_,_,d1,j0,j1,j2,j3,j5,_,X _ _ lk,.of_isNs (isNs_of_in X q5),nsMap_none_of_in X q5 q6,tail_of_in X q4⟩
  ·cases q
 ·cases q
section
variable {X:Cx}{E:XK}{x:Str}{np mQ pos:Pos}{C:Addr}{bmB:List Value}{Bn newId HB:String}{e₀:Expr}{rest:List Expr}{ta:TA}
noncomputable def GR (C:Addr)(E:XK)(ta:TA):TS:=λ_ σ H=>ta σ H λvs H1=>vs.length<=sizeLine/\∀ e,H1 e=none->E (.ref C) (some e) H1
theorem gN (hR:Raises X E)(hc:X.calm=true)(hg:Gl X x)(hm:X.mg x=some (.ref C))(q:excIn X.K C bmB newId=true)(FB:ExcBaseFacts Bn newId HB bmB)(ha:PA X (e₀::rest) ta)
  (he:starEach (e₀::rest) X.env=(false,eval e₀ X.env)::starEach rest X.env:=by rfl) (hpl:(backTo mQ (starEach rest X.env)).any (·.1)=false:=by rfl) (hd:(x==("__debug__" :Str))=false:=by decide):
  PS X (.Raise (some (.Call (.Name x np) (e₀::rest) [] mQ)) none pos) (GR C E ta):=by
 intro pins s σ H D I h
 obtain⟨tl,N,nm,qn,bs,hdct,sn,sub,ab,col,dd,k0,k1,k2,k3,k5,mN,hC,hN,hni,T⟩:=FZ I.mod.kin q
 refine wpAny_Raise_call_subT (C:=C) (nm:=nm) (q:=qn) (N:=N) (bs:=bs) (bm:=tl) (hdct:=hdct) (sn:=sn) (sub:=sub) (ab:=ab) (col:=col) (dd:=dd) (k0:=k0) (k1:=k1) (k2:=k2) (k3:=k3) (k5:=k5)
  FB (mN:=mN) (T.hasType FB.hasBase) (I.ok.hd hc) (by rw[he];show(false||(backTo mQ (starEach rest X.env)).any (·.1))=false;rw[hpl];rfl) hni (p9 I hg hm ⟨rfl,?_⟩ hd)
 have h2:=ha mQ pins s σ H _ I h
 rw[he]at h2 ⊢
 exact Calls.evalArgs_plain (aY h2 (λus s1 ⟨vs,H1,I1,r,z1,z2⟩=>⟨rfl,r.length ▸ z1,I1.bk _ _ hC,hN.keeps I1.bk,T.keeps I1.bk,λh' e hx=>hR pins σ H1 s1 h' e C us I1 hx (z2 e (I1.hok.none_of hx.new))⟩) λ_ _ y=>y)
end
noncomputable def A2 (e C:Addr):HO:=.ext (XAt e C)
theorem F0 {P:Program}{w:World}{H:Hp}{h:Heap}{e C:Addr}{o:Obj}(ho:h.get? e=some o)(hc:o.cls = .ref C):iZ P w H h e (A2 e C):=
 ⟨⟨o,ho,hc⟩,⟨o,ho⟩,λh1 h2 ⟨o',e1,e2⟩ k=>⟨o',k o' e1,e2⟩⟩
section
variable {X:Cx}{pins:List (Addr×Obj)}{σ:St}{H H1:Hp}{s s':Shared}{e C:Addr}{B:Heap}
theorem Inv.Iq {u:HO}(I:Inv X pins σ H s)(hn:H e=none)(h0:X.s₀.heap.get? e=none)(ho:iZ X.prog X.w (upd H e u) s.heap e u)(nl:e≠X.env.locals)(nc:∀ x c,X.env.cells.lookup x=some c->c≠e)
  (np:∀ p∈X.pn++pins,p.1≠e):Inv X pins σ (upd H e u) s:=by
 have ne0:∀ b o,X.s₀.heap.get? b=some o->b≠e:=λb o q z=>by rw[z,h0]at q;cases q
 have neT:∀ b v,H b=some v->b≠e:=λb v q z=>by rw[z,hn]at q;cases q
 refine⟨I.ok,I.os,I.bare,⟨I.base.keep,I.base.slot,λb o q n hx=>?_,I.base.there,λb xs q=>?_,λb o v q=>?_,λb ps q=>?_⟩,I.loc,I.cell,?_,λx c q=>?_,λp hp=>?_,λb v q=>?_,I.len⟩
 ·rw[fE (ne0 b o q)];exact I.base.free b o q n hx
 ·have z:=I.base.qs b xs q;rw[fE (neT _ _ z)];exact z
 ·have z:=I.base.qk b o v q;rw[fE (neT _ _ z)];exact z
 ·obtain⟨m,z⟩:=I.base.qt b ps q;exact⟨m,by rw[fE (neT _ _ z)];exact z⟩
 ·rw[fE (bX nl)];exact I.free
 ·rw[fE (nc x c q)];exact I.lD x c q
 ·obtain⟨z1,z2,z3⟩:=I.pin p hp
  exact⟨z1,by rw[fE (np p hp)];exact z2,z3⟩
 ·by_cases hb:b=e
  ·subst hb;rw[eZ]at q;cases q;exact ho
  ·rw[fE hb]at q
   exact(I.hok b v q).qi (λ_ _ _ z=>z) (λc z=>by rw[fE (neT _ _ z)];exact z) λc xs z=>by rw[fE (neT _ _ z)];exact z
theorem Fl.kept (x:Fl X.prog X.w X.base X.stack H H1 s.heap e C B s'.heap)(I:Inv X pins σ H s)(hex:X.ex = [])(ho:s'.os=s.os)(hg:AllBare s'.gens):Inv X pins σ (upd H1 e (A2 e C)) s':=by
 have J:=x.inv I ho hg
 obtain⟨a0,f⟩:=x.fly
 obtain⟨oe,vs,he,hc,hd,_⟩:=f.first
 have nB:B.get? e=none:=f.2.1
 have nfr:e∉frs X.stack:=λhm=>by
  obtain⟨_,o,z,nf⟩:=f.2.2.1.mem hm
  rw[he]at z;cases z;exact nf vs hd
 refine J.Iq (x.hok.none_of nB) ?_ (F0 he hc) ?_ (λy c q z=>?_) λp hp z=>?_
 ·cases q:X.s₀.heap.get? e with
  |none=>rfl
  |some o=>
   obtain⟨o',z⟩:=I.base.there e o q (by rw[hex];simp)
   obtain⟨o2,z2⟩:=x.thr e o' z nfr
   rw[nB]at z2;cases z2
 ·rintro rfl
  obtain⟨m,⟨o,es,ep,z,hd',_⟩,_⟩:=J.loc
  rw[he]at z;cases z;rw[hd]at hd';cases hd'
 ·subst z
  obtain⟨v,o,z,hd'⟩:=J.cell y _ q
  rw[he]at z;cases z;rw[hd]at hd';cases hd'
 ·obtain⟨z1,z2,z3,z4,_⟩:=I.pin p hp
  have z5:=x.kp p.1 p.2 z1 z2 λhm=>(aI.mp (I.nX _ hm)).elim z3 z4
  rw[z,nB]at z5;cases z5
noncomputable abbrev Cx.pR (X:Cx)(e:Addr):Cx:={X with A:=X.A.mark (some (.ref e)),calm:=false,xe:=λ_ _=>False}
theorem Inv.pR (I:Inv X pins σ H s)(e:Addr):Inv (X.pR e) pins σ H s:=
 ⟨⟨I.ok.mod,I.ok.kind,I.ok.glob,I.ok.blt,I.ok.above,I.ok.inj,I.ok.has,I.ok.cab,(λz=>nomatch z),I.ok.frames,I.ok.stk,I.ok.exf,I.ok.bs,I.ok.bsz,I.ok.AI,I.ok.CP,I.ok.rm,I.ok.frf⟩,I.os,I.bare,I.base,I.loc,I.cell,I.free,I.lD,I.pin,I.hok,I.len⟩
theorem Inv.uncaught (I:Inv (X.pR e) pins σ H s)(ok:X.Ok):Inv X pins σ H s:=⟨ok,I.os,I.bare,I.base,I.loc,I.cell,I.free,I.lD,I.pin,I.hok,I.len⟩
theorem name_goes {M:Model}{A:Around}{E:Value->Shared->Prop}{j:Nat}{n:Str}{pos:Pos}(I:Inv X pins σ H s)(hN:X.N.Nodup)(hj:X.N[j]? = some n)(hk:X.env.scope.names.lookup n=some .local)
  (h:∀ s',Inv X pins (σ.set j none) H s'->Q () s'):wpAny M A (do bindName X.env n .none;unbindBehindTheSuite X.env n pos) Q E s:=by
 obtain⟨m,hn,hl⟩:=id I.loc
 have EF:(X.env.scope.kind == .class||(X.env.scope.kind == .module&&X.env.locals !=X.env.globals))=false:=by rw[I.ok.kind];rfl
 have hjσ:j<σ.length:=by rw[I.len];exact(af.mp hj).1
 refine wpAny_nameGoes_keeps hk hn EF λh' v hn' hs=>h _ ?_
 have ne0:∀ b o,X.s₀.heap.get? b=some o->h'.get? b=s.heap.get? b:=λb o e=>hs.2 b (aK (aT (ay e) I.ok.above))
 refine⟨I.ok,I.os,I.bare,⟨λb o e n hb hx=>(ne0 b o e).trans (I.base.keep b o e n hb hx),λb o e n hb hx=>?_,I.base.free,λb o e hx=>?_,I.base.qs,I.base.qk,I.base.qt⟩,⟨_,hn',λi y v' e1 e2 e3=>?_⟩,
  λy c e=>?_,I.free,I.lD,λp hp=>?_,λb u e=>?_,by simpa using I.len⟩
 ·obtain⟨sl,z⟩:=I.base.slot b o e n hb hx
  exact⟨sl,(ne0 b o e).trans z⟩
 ·obtain⟨o',z⟩:=I.base.there b o e hx
  exact⟨o',(ne0 b o e).trans z⟩
 ·have hij:i≠j:=λz=>by subst z;rw[List.getElem?_set_self hjσ]at e2;cases e2
  rw[ei (bX hij)]at e2
  obtain⟨u',r',z⟩:=hl i y v' e1 e2 e3
  have ny:y≠n:=λz=>hij (uT hN e1 (z ▸ hj))
  refine⟨u',r',?_⟩
  rcases z with⟨k,z⟩|⟨k,c,z1,z2⟩
  ·exact .inl ⟨k,by show(if y=n then v else m y)=_;rw[au ny];exact z⟩
  ·exact .inr ⟨k,c,z1,z2.sameBut hs (I.cne y c z1)⟩
 ·obtain⟨v',z⟩:=I.cell y c e
  exact⟨v',z.sameBut hs (I.cne y c e)⟩
 ·obtain⟨z1,z2,z3,z4,z5⟩:=I.pin p hp
  exact⟨(hs.2 p.1 z3).trans z1,z2,z3,z4,z5⟩
 ·refine(I.hok b u e).qi (λc v hc q=>(hs.2 c ?_).trans q) (λ_ q=>q) λ_ _ q=>q
  rintro rfl
  rcases hc with rfl |hc
  ·rw[I.free]at e;cases e
  ·rw[I.free]at hc;cases hc
end
theorem GK {M:Model}{A:Around}{E:Value->Shared->Prop}{K:Frag}{s:Shared}{e C D:Addr}{oe:Obj}{Q:Bool->Shared->Prop}(X:K.In s.heap)(he:s.heap.get? e=some oe)(hc:oe.cls = .ref C)
  (hty:typeIn K (.ref D)=some (.type "type")) (HH:(clsIn K D).isSome=true) (hb:mroIn K D (.type "BaseException")=some true) (hm:mroIn K C (.ref D)=some true) (hq:Q true s):
  wpAny M A (excMatches (.ref e) (.ref D)) Q E s:=by
 obtain⟨h,g,d,t,os⟩:=s
 have L0:=xty (M:=M) he hc
 have L1:=looks_mroIn (M:=M) X hb
 have L2:=looks_mroIn (M:=M) X hm
 have L3:=looks_typeIn (M:=M) X hty
 have f:=tc_notTuple
 unfold clsIn at HH
 split at HH
 ·rename_i c' d' cd' sl' ho
  have hD:=X _ _ ho
  unfold excMatches
  repeat (first |with_reducible refine L0.at ?_ |with_reducible refine L3.at ?_ |with_reducible refine L1.at ?_ |with_reducible refine L2.at ?_ |with_reducible refine wpAny_loadPart_at hD ?_ |wp_step)
  exact hq
 ·cases HH
noncomputable def BX (CX:CXT)(X:Cx)(E:St->XK):Prop:=∀ (pins:List (Addr×Obj)) (σ:St) (H:Hp) (s:Shared) (e:Value) (s':Shared),Inv X pins σ H s->CX X.stack H s (E σ) e s'->X.xe e s'
noncomputable abbrev Cx.rM (X:Cx)(pn:List (Addr×Obj))(W:Value->Shared->Prop):Cx:={X with pn:=X.pn++pn,xe:=W}
section
variable {X:Cx}{pins pn:List (Addr×Obj)}{σ:St}{H:Hp}{s:Shared}{W:Value->Shared->Prop}
theorem Inv.rM (I:Inv X pins σ H s)(W:Value->Shared->Prop):Inv (X.rM pins W) pins σ H s:=
 ⟨⟨I.ok.mod,I.ok.kind,I.ok.glob,I.ok.blt,I.ok.above,I.ok.inj,I.ok.has,I.ok.cab,I.ok.hd,I.ok.frames,I.ok.stk,I.ok.exf,I.ok.bs,I.ok.bsz,I.ok.AI,I.ok.CP,I.ok.rm,I.ok.frf⟩,I.os,I.bare,I.base,I.loc,I.cell,I.free,I.lD,
  (λp hp=>I.pin p (by
   rcases aJ.mp hp with z |z
   ·exact z
   ·exact aJ.mpr (.inr z))),I.hok,I.len⟩
theorem Inv.yP (I:Inv (X.rM pn W) pins σ H s)(ok:X.Ok):Inv X pn σ H s:=
 ⟨ok,I.os,I.bare,I.base,I.loc,I.cell,I.free,I.lD,(λp hp=>I.pin p (aJ.mpr (.inl hp))),I.hok,I.len⟩
end
structure yK (K:Frag)(D C:Addr):Prop where
 ty:typeIn K (.ref D)=some (.type "type")
 isc:(clsIn K D).isSome=true
 bex:mroIn K D (.type "BaseException")=some true
 mro:mroIn K C (.ref D)=some true
noncomputable abbrev Ends.gone (D:Ends)(j:Nat):Ends:={nx:=λσ H=>D.nx (σ.set j none) H,rt:=D.rt,bk:=λσ H=>D.bk (σ.set j none) H,ct:=λσ H=>D.ct (σ.set j none) H}
noncomputable def JE (K:Frag)(D:Addr)(j:Nat)(th:TS)(Z:Ends):St->XK:=λσ c a H=>∃ e C,a=some e/\c = .ref C/\yK K D C/\th (Z.gone j) (σ.set j (some (.ref e))) (upd H e (A2 e C))
noncomputable def JU (K:Frag)(D:Addr)(j:Nat)(tb:(St->XK)->TS)(th:TS):TS:=λZ σ H=>tb (JE K D j th Z) Z σ H
section
variable {X:Cx}{body Bb:List Stmt}{b₀:Stmt}{x n:Str}{np FR pos:Pos}{D:Addr}{j:Nat}{tb:(St->XK)->TS}{th:TS}
theorem G7 (hst:X.stack=X.env::X.outer)(hfr:X.env.frame=some X.env.locals)(hex:X.ex = [])(hN:X.N.Nodup)(hj:X.N[j]? = some n)(hn:X.env.scope.names.lookup n=some .local)(hg:Gl X x)(hm:X.mg x=some (.ref D))
  (hb:∀ pn W (E:St->XK),BX (CXr X.prog X.w X.base) (X.rM pn W) E->PSs (X.rM pn W) body (tb E)) (hs:∀ e,PSs (X.pR e) (b₀::Bb) th) (hd:(x==("__debug__" :Str))=false:=by decide):
  PS X (.Try body [.ExceptHandler (some (.Name x np)) (some n) (b₀::Bb) FR] [] [] pos) (JU X.K D j tb th):=by
 intro pins s σ H Z I h
 refine wpAny_Try_except ?_
 refine aY (hb pins (λe s₁=>wpAny (model X.prog X.w) X.A (noteFrame e X.env) (λ_ s₂=>wpAny (model X.prog X.w) X.A (setFlight e none) (λ_ s₃=>wpAny (model X.prog X.w) X.A (handleBy e X.env [.ExceptHandler (some (.Name x np)) (some n) (b₀::Bb) FR]) (SP X pins Z) X.xe s₃) X.xe s₂) X.xe s₁)
  (JE X.K D j th Z) ?_ pins s σ H Z (I.rM _) h) (λf s1 q=>?_) λe s1 q=>q
 ·intro tm σ1 H1 s1 ev s2 I1' hx
  have I1:Inv X pins σ1 H1 s1:=I1'.yP I.ok
  obtain⟨e,C',H2,B,rfl,ho,Gy,x0,e',C,z1,z2,cat,q⟩:=hx
  obtain rfl:e=e':=bx z1
  obtain rfl:C'=C:=by injection z2
  have x0:Fl X.prog X.w X.base X.stack H1 H2 s1.heap e C' B s2.heap:=x0
  obtain⟨a0,f0⟩:=x0.fly
  have Jx:=I.ok.frames
  rw[hst]at Jx
  have f0':=f0
  rw[hst]at f0'
  show wpAny (model X.prog X.w) X.A (noteFrame (.ref e) X.env) _ _ s2
  refine wpAny_looks_onW Jx hfr f0' λh4 hh4 sm4=>?_
  refine wpAny_landsW hh4 λh5 f5 sm5=>?_
  have f5':Heap.FlyingW B X.stack e (.ref C') a0 h5:=by rw[hst];exact f5
  have x5:Fl X.prog X.w X.base X.stack H1 H2 s1.heap e C' B h5:=⟨x0.toFl0.step f5'.1 f0.2.2.1 f5'.2.2.1 (sm4.trans sm5),a0,f5'⟩
  have I5:Inv X pins σ1 (upd H2 e (A2 e C')) {s2 with heap:=h5} :=Fl.kept (s':={s2 with heap:=h5}) x5 I1 hex ho Gy
  obtain⟨oe,he,hec⟩:=f5'.there
  refine wpAny_handleBy_cons (codeAny_handlers_test (p9 (X:=X.pR e) (I5.pR e) hg hm ?_ hd)) (by intro q;cases q)
  refine GK (K:=X.K) I5.kIn he hec cat.ty cat.isc cat.bex cat.mro (codeAny_handlers_suite_as ?_)
  refine lands_againW f5' λh6 f6 sm6=>?_
  have x6:Fl X.prog X.w X.base X.stack H1 H2 s1.heap e C' B h6:=⟨x5.toFl0.step f6.1 f5'.2.2.1 f6.2.2.1 sm6,a0,f6⟩
  have I6:Inv X pins σ1 (upd H2 e (A2 e C')) {s2 with heap:=h6} :=Fl.kept (s':={s2 with heap:=h6}) x6 I1 hex ho Gy
  refine um (X:=X.pR e) (I6.pR e) hN hj (.inl hn) (v:=.ref e) rfl (λs7 I7=>?_) (.inr hn)
  refine aY (hs e pins s7 _ _ (Z.gone j) I7 q) (λf s8 q8=>?_) λ_ _ z=>False.elim z
  cases f with
  |next=>obtain⟨σ8,H8,I8,q8⟩:=q8;exact name_goes (I8.uncaught I.ok) hN hj hn λs9 I9=>⟨_,H8,I9,q8⟩
  |brk=>obtain⟨σ8,H8,I8,q8⟩:=q8;exact name_goes (I8.uncaught I.ok) hN hj hn λs9 I9=>⟨_,H8,I9,q8⟩
  |cont=>obtain⟨σ8,H8,I8,q8⟩:=q8;exact name_goes (I8.uncaught I.ok) hN hj hn λs9 I9=>⟨_,H8,I9,q8⟩
  |ret u=>obtain⟨v8,σ8,H8,I8,r8,q8⟩:=q8;exact name_goes (I8.uncaught I.ok) hN hj hn λs9 I9=>⟨v8,_,H8,I9,r8,q8⟩
 ·cases f with
  |next=>obtain⟨σ8,H8,I8,q8⟩:=q;exact wpAny_execs_nil ⟨σ8,H8,I8.yP I.ok,q8⟩
  |brk=>obtain⟨σ8,H8,I8,q8⟩:=q;exact⟨σ8,H8,I8.yP I.ok,q8⟩
  |cont=>obtain⟨σ8,H8,I8,q8⟩:=q;exact⟨σ8,H8,I8.yP I.ok,q8⟩
  |ret u=>obtain⟨v8,σ8,H8,I8,r8,q8⟩:=q;exact⟨v8,σ8,H8,I8.yP I.ok,r8,q8⟩
end
theorem iC {X:Cx} :jN X (.builtin "isinstance") (λxs H Q=>∃ e C c cv b,xs = [.ref e,c]/\H e=some (A2 e C)/\ExC X.K C/\RelV c cv/\(∀ cv',RelV c cv'->cv'=cv)/\kitOne X.K (.ref C) cv=some b/\Q (.bl b) H):=by
 intro pins s σ H vs us Q I r h
 obtain⟨e,C,c,cv,b,rfl,he,ex,_,rc,hk,q⟩:=h
 cases r with
 |cons r1 r2=>
  cases r2 with
  |cons r2 r3=>
   cases r3
   obtain rfl:=(show _=Value.ref e from r1)
   rw[rc _ r2]
   obtain⟨p,_,_⟩:=(show iZ X.prog X.w H s.heap e (.ext (XAt e C)) from I.hok e _ he)
   exact kia_one (Ex ex) I.kIn p hk (λz=>nomatch z) λtk=>⟨.bl b,H,I.tok tk,rfl,q⟩
open TL
section
variable {P:Program}{w:World}{K:PySem.W.Frag}{mg:Str->Option Value}{base:Heap}
theorem Fun.okX {x qual:Str}{st:Stmt}{f:Addr}{fd:FuncData}{N ps:List Str}{k:Nat}{sp:Sp}(F:Fun K x qual st f fd)(S:fC N ps (fh st))(len:∀ vs H Q E,sp vs H Q E->vs.length=ps.length)
  (zT:∀ (cdv:Value) (A:Around) (outer:List Env) (s:Shared) (H:Hp) (vs:List V) (Q:VK) (E:XK),lE k (A.deeper (envOfC qual (fh st) s.heap.objs.size f cdv))->sp vs H Q E->
   ∃ t,PSs (wt (CXr P w base) P w K mg base N qual (fh st) f cdv A outer s H E) (jR st) t/\t {nx:=λ_ H'=>Q .non H',rt:=Q} (start N vs) H):fm P w K mg base (CXr P w base) (k+1) f fd ps sp:=by
 obtain⟨oc,od,kV,doc,pm,an,cdv,ct,osl,rfl,lk,hcd⟩:=F.ex
 exact GC lk hcd S len λA outer s H vs Q E hr hsp=>zT cdv A outer s H vs Q E hr hsp
end
abbrev bmV:List Value:=[.type "ValueError",.type "Exception",.type "BaseException",.type "object"]
structure Xc (K:Frag)(mg:Str->Option Value)(x:Str)(C:Addr):Prop where
 m:mg x=some (.ref C)
 q:excIn K C bmV "ValueError.__new__" = true
 e:ExC K C
structure Xs (K:Frag)(mg:Str->Option Value)(D c1 c2 c3 c4 c5 c6 c7:Addr):Prop where
 VE:mg "ValueError" = none
 Dj:Xc K mg "TurnError" D
 je:Xc K mg "NoLine" c1
 ji:Xc K mg "NoTrain" c2
 sQ:Xc K mg "NoMove" c3
 B3:Xc K mg "NoPiece" c4
 BV:Xc K mg "TooMany" c5
 kL:Xc K mg "NoText" c6
 BZ:Xc K mg "NoRow" c7
 cat:∀ c∈ [c1,c2,c3,c4,c5,c6,c7],yK K D c
 val:∀ c∈ [c1,c2,c3,c4,c5,c6,c7],kitOne K (.ref c) (.type "ValueError")=some true
 eq:∀ c∈ [c1,c2,c3,c4,c5,c6,c7],∀ d∈ [c1,c2,c3,c4,c5,c6,c7],kitOne K (.ref c) (.ref d)=some (decide (c=d))
 nd:[c1,c2,c3,c4,c5,c6,c7].Nodup
theorem tZ:bootBuiltins "ValueError" = some (.type "ValueError"):= PyProof.Rows.Boot.«ValueError»
theorem Vals.bls:∀ {bs:List Bool}{its:List Value},Vals (bs.map V.bl) its->its=bs.map Value.bool
 |[],_,.nil=>rfl
 |b::bs,_,.cons r t=>by rw[Vals.bls t,(show _=Value.bool b from r)];rfl
section
variable {X:Cx}
noncomputable def Fu:V->List V->Hp->VK->Prop:=λx vs H Q=>∃ (l:Addr) (bs:List Bool) (c:Bool),x = .ref l/\vs = [.bl c]/\H l=some (.lst (bs.map V.bl))/\Q (.int (bs.count c:Nat)) H
noncomputable def vb (c:Bool):Value->Bool
 |.bool b=>b==c
 |_=>false
theorem Ei:MtM X "list.count" Fu:=by
 intro pins s σ H x vs v us Q I rx rv h
 obtain⟨l,bs,c,rfl,rfl,hH,q⟩:=h
 cases rx
 cases rv with
 |cons r1 r2=>
  cases r2
  obtain rfl:=(show _=Value.bool c from r1)
  obtain⟨z,its,n,r,hl,e⟩:=I.CB hH
  have hi:=r.bls
  subst hi
  refine eC PySem.F.slot_list_count ⟨_,e,rfl⟩ PySem.F.entry_list_count (PySem.F.args_list_count_2 _ _) (SeqAt.list_countAt l _ n none #[] (.bool c) (vb c)) ⟨e,λy hy=>?_,?_⟩
  ·rw[List.mem_toArray]at hy
   obtain⟨b,_,rfl⟩:=aH.mp hy
   exact SeqAt.EqAt.bool_bool b c
  ·have e1:((bs.map Value.bool).toArray.toList.countP (vb c))=bs.count c:=by
    simp only[cq]
    rw[List.countP_map]
    rfl
   rw[e1]
   exact⟨.int _,H,I.tok _,⟨_,rfl⟩,q⟩
noncomputable def Ft:V->List V->Hp->VK->Prop:=λx vs H Q=>∃ (l:Addr) (bs:List Bool) (c:Bool) (j:Nat),x = .ref l/\vs = [.bl c]/\H l=some (.lst (bs.map V.bl))/\bs[j]? = some c/\(∀ m,m<j->bs[m]? = some (!c))/\Q (.int (j:Nat)) H
theorem Eh:MtM X "list.index" Ft:=by
 intro pins s σ H x vs v us Q I rx rv h
 obtain⟨l,bs,c,j,rfl,rfl,hH,hj,hno,q⟩:=h
 cases rx
 cases rv with
 |cons r1 r2=>
  cases r2
  obtain rfl:=(show _=Value.bool c from r1)
  obtain⟨z,its,n,r,hl,e⟩:=I.CB hH
  have hi:=r.bls
  subst hi
  have hjl:j<bs.length:=(af.mp hj).1
  have hjs:j<(bs.map Value.bool).toArray.size:=by simpa using hjl
  have h63:(sizeLine:Nat)<2 ^ 62:=by rw[aM];decide
  have z':bs.length<=sizeLine:=by simpa using z
  refine eC PySem.F.slot_list_index ⟨_,e,rfl⟩ PySem.F.entry_list_index (PySem.F.args_list_index_2 _ _) (SeqAt.list_indexAt l _ n none #[] (.bool c) (vb c) j hjs (by omega) ?_ λm hm hmj=>?_) ⟨e,λy hy=>?_,?_⟩
  ·have:bs[j]=c:=(af.mp hj).2
   simp[vb,this]
  ·have hm':=hno m hmj
   have:bs[m]'(by omega) = !c:=(af.mp hm').2
   simp[vb,this]
  ·rw[List.mem_toArray]at hy
   obtain⟨b,_,rfl⟩:=aH.mp hy
   exact SeqAt.EqAt.bool_bool b c
  ·exact⟨.int _,H,I.tok _,⟨_,rfl⟩,q⟩
end
structure mK (K:Frag)(x:Str)(C:Addr):Prop where
 b:nsIn K mainGlobals x=some (some (.ref C))
 q:excIn K C bmV "ValueError.__new__" = true
 o:mroIn K C (.type "object")=some true
 p:mroIn K C (.type "BaseException")=some true
 r:findIn K (.ref C) "__class__" = some (some (.builtin "object.__class__"))
 g:findIn K (.ref C) "__getattribute__" = some (some (.builtin "BaseException.__getattribute__"))
 h:findIn K (.ref C) "__getattr__" = some none
 i:isClsIn K C=true
 t:typeIn K (.ref C)=some (.type "type")
structure qE (K:Frag)(D C:Addr):Prop where
 m:mroIn K C (.ref D)=some true
 v:subIn K (.ref C) (.type "ValueError")=some true
structure rE (K:Frag)(c d1 d2 d3 d4 d5 d6:Addr):Prop where
 e1:subIn K (.ref c) (.ref d1)=some false
 e2:subIn K (.ref c) (.ref d2)=some false
 e3:subIn K (.ref c) (.ref d3)=some false
 e4:subIn K (.ref c) (.ref d4)=some false
 e5:subIn K (.ref c) (.ref d5)=some false
 e6:subIn K (.ref c) (.ref d6)=some false
section
variable {K:Frag}{h:Heap}{mg:Str->Option Value}{x:Str}{C D:Addr}
theorem mK.isc (a:mK K x C):(clsIn K C).isSome=true:=by
 have:=a.i
 unfold isClsIn at this
 exact this
theorem mK.ex (a:mK K x C):ExC K C:=⟨a.o,a.p,a.r,a.g,a.h,a.isc⟩
theorem mK.xc (a:mK K x C)(X:K.In h)(G:h.Ns mainGlobals mg):Xc K mg x C:=⟨mg_of X G a.b,a.q,a.ex⟩
theorem qD {y:Str}{d:Addr}(a:mK K y d)(hne:C≠d)(e:subIn K (.ref C) (.ref d)=some false):kitOne K (.ref C) (.ref d)=some (decide (C=d)):=by
 have h1:(Value.ref C==Value.ref d)=false:=Bool.eq_false_iff.mpr λz=>hne (Value.ref.inj (cO.mp z))
 unfold kitOne kitCls
 rw[h1,au (by decide)]
 dsimp only
 rw[a.isc,a.t,aA (by rfl),e,bF hne]
theorem Hs:kitOne K (.ref C) (.ref C)=some (decide (C=C)):=by
 unfold kitOne
 rw[aA (dH _),eF rfl]
theorem ou (e:subIn K (.ref C) (.type "ValueError")=some true):kitOne K (.ref C) (.type "ValueError")=some true:=by
 unfold kitOne kitCls
 rw[au (by intro z;cases cO.mp z)]
 dsimp only
 rw[aA (by decide +kernel),e]
variable {c1 c2 c3 c4 c5 c6 c7:Addr}
theorem Ij (X:K.In h)(G:h.Ns mainGlobals mg)(ve:nsIn K mainGlobals "ValueError" = some none)(b0:mK K "TurnError" D)(b1:mK K "NoLine" c1)(b2:mK K "NoTrain" c2)(b3:mK K "NoMove" c3)(b4:mK K "NoPiece" c4)
  (b5:mK K "TooMany" c5) (b6:mK K "NoText" c6) (b7:mK K "NoRow" c7) (d1:qE K D c1) (d2:qE K D c2) (d3:qE K D c3) (d4:qE K D c4) (d5:qE K D c5) (d6:qE K D c6) (d7:qE K D c7)
  (e1:rE K c1 c2 c3 c4 c5 c6 c7) (e2:rE K c2 c1 c3 c4 c5 c6 c7) (e3:rE K c3 c1 c2 c4 c5 c6 c7) (e4:rE K c4 c1 c2 c3 c5 c6 c7) (e5:rE K c5 c1 c2 c3 c4 c6 c7) (e6:rE K c6 c1 c2 c3 c4 c5 c7) (e7:rE K c7 c1 c2 c3 c4 c5 c6)
  (nd:[c1,c2,c3,c4,c5,c6,c7].Nodup):Xs K mg D c1 c2 c3 c4 c5 c6 c7:=by
 have ct:∀ {c:Addr},qE K D c->yK K D c:=λd=>⟨b0.t,b0.isc,b0.p,d.m⟩
 refine⟨mg_none_of X G ve,b0.xc X G,b1.xc X G,b2.xc X G,b3.xc X G,b4.xc X G,b5.xc X G,b6.xc X G,b7.xc X G,λc hc=>?_,λc hc=>?_,λc hc d hd=>?_,nd⟩
 ·simp only[aI,bP,dq]at hc
  rcases hc with rfl |rfl |rfl |rfl |rfl |rfl |rfl
  ·exact ct d1
  ·exact ct d2
  ·exact ct d3
  ·exact ct d4
  ·exact ct d5
  ·exact ct d6
  ·exact ct d7
 ·simp only[aI,bP,dq]at hc
  rcases hc with rfl |rfl |rfl |rfl |rfl |rfl |rfl
  ·exact ou d1.v
  ·exact ou d2.v
  ·exact ou d3.v
  ·exact ou d4.v
  ·exact ou d5.v
  ·exact ou d6.v
  ·exact ou d7.v
 ·have hcd:c=d\/c≠d:=by by_cases h:c=d;exact .inl h;exact .inr h
  rcases hcd with rfl |hne
  ·exact Hs
  ·simp only[aI,bP,dq]at hc hd
   have ee:subIn K (.ref c) (.ref d)=some false:=by
    rcases hc with rfl |rfl |rfl |rfl |rfl |rfl |rfl<;>rcases hd with rfl |rfl |rfl |rfl |rfl |rfl |rfl<;>
     first |exact absurd rfl hne |exact e1.e1 |exact e1.e2 |exact e1.e3 |exact e1.e4 |exact e1.e5 |exact e1.e6 |exact e2.e1 |exact e2.e2 |exact e2.e3 |exact e2.e4 |exact e2.e5 |exact e2.e6 |exact e3.e1 |exact e3.e2 |exact e3.e3 |exact e3.e4 |exact e3.e5 |exact e3.e6 |exact e4.e1 |exact e4.e2 |exact e4.e3 |exact e4.e4 |exact e4.e5 |exact e4.e6 |exact e5.e1 |exact e5.e2 |exact e5.e3 |exact e5.e4 |exact e5.e5 |exact e5.e6 |exact e6.e1 |exact e6.e2 |exact e6.e3 |exact e6.e4 |exact e6.e5 |exact e6.e6 |exact e7.e1 |exact e7.e2 |exact e7.e3 |exact e7.e4 |exact e7.e5 |exact e7.e6
   rcases hd with rfl |rfl |rfl |rfl |rfl |rfl |rfl
   ·exact qD b1 hne ee
   ·exact qD b2 hne ee
   ·exact qD b3 hne ee
   ·exact qD b4 hne ee
   ·exact qD b5 hne ee
   ·exact qD b6 hne ee
   ·exact qD b7 hne ee
end
end L2
namespace TL
open PySem PySem.Spec PyProof.Rows L2
structure Bm (mg:Str->Option Value):Prop extends Bl mg where
 zip:mg "zip" = none
 sum:mg "sum" = none
 all:mg "all" = none
 set:mg "set" = none
 tuple:mg "tuple" = none
 abs:mg "abs" = none
 bool:mg "bool" = none
 dict:mg "dict" = none
 str:mg "str" = none
variable {H:Hp}
theorem Inv.Ff {X:Cx}{pins:List (Addr×Obj)}{σ:St}{s:Shared}{h':Heap}{t':Nat}{ch:List Addr}(I:Inv X pins σ H s)(hf:∀ b∈ch,nC X pins H b)
  (keep:∀ b o,b∉ch->s.heap.get? b=some o->h'.get? b=some o):Inv X pins σ H {s with heap:=h',toks:=t'} :=by
 have nch:∀ b u,H b=some u->b∉ch:=λb u q z=>by rw[(hf b z).1]at q;cases q
 refine I.step (g':=s.gens) (d':=s.drawn) (ch:=ch) (λb hb=>?_) (λb o _ _ hc q _=>keep b o hc q) (λb o _ _ hc q _=>⟨o.slots,keep b o hc q⟩) (λ_ _ _ _ n=>n)
  (λb o hc q=>⟨o,keep b o hc q⟩) (λ_ _ e=>e) (λ_ _ _ e=>e) (λb ps e=>⟨#[],by rw[e];simp⟩) (λm hm=>?_) (λb u q=>?_) I.bare
 ·obtain⟨f0,f1,f2,f3,f4,f5⟩:=hf b hb
  exact⟨f3,f1,f4,f5⟩
 ·obtain⟨o,es,ep,ho,r⟩:=hm
  exact⟨o,es,ep,keep _ o (λz=>(hf _ z).2.1 rfl) ho,r⟩
 ·refine(I.hok b u q).qi (λc v hc q'=>keep c v ?_ q') (λc z=>z) λc ys z=>z
  rcases hc with z |z
  ·rw[z];exact nch b u q
  ·exact nch c _ z
noncomputable def Itz (K:PySem.W.Frag)(a b:Addr):It:=
 ⟨λi H=>∃ xs ys x y,SqL K H a xs/\SqL K H b ys/\xs[i]? = some x/\ys[i]? = some y,
  λi H v H'=>∃ p,H p=none/\v = .ref p/\∀ xs ys x y,SqL K H a xs->SqL K H b ys->xs[i]? = some x->ys[i]? = some y->H'=upd H p (.tup [x,y]),
  λi H=>∃ xs ys,SqL K H a xs/\SqL K H b ys/\(xs.length<=i\/ys.length<=i)⟩
theorem Dt {P:Program}{w:World}{K:PySem.W.Frag}{es:List Expr}{x1:Nat}{pt:Pos}{a b z TI TO i1 i2:Addr}(D:ZipApart z TI TO i1 i2 a b):
  Turn P w K (.Tuple es x1 pt) (Itz K a b) [z,TI,TO,i1,i2] z (λi h=>IsZip h z TI TO .none/\IsPair h TI (.ref i1) (.ref i2)/\(∃ u v,IsPair h TO u v)/\h.IsListIter i1 a i/\h.IsListIter i2 b i) where
 mem:=by simp
 obj:=λi h st c hc=>by
  obtain⟨hz,h1,⟨u,v,h2⟩,h3,h4⟩:=st
  obtain⟨o3,q3,_,d3⟩:=h3
  obtain⟨o4,q4,_,d4⟩:=h4
  simp only[aI,bP,dq]at hc
  rcases hc with rfl |rfl |rfl |rfl |rfl
  ·exact⟨_,hz,λv z=>by cases z⟩
  ·exact⟨_,h1,λv z=>by cases z⟩
  ·exact⟨_,h2,λv z=>by cases z⟩
  ·exact⟨_,q3,λv z=>by rw[d3]at z;cases z⟩
  ·exact⟨_,q4,λv z=>by rw[d4]at z;cases z⟩
 keep:=λi h h' ⟨hz,h1,⟨u,v,h2⟩,h3,h4⟩ k=>⟨k z (by simp) _ hz,k TI (by simp) _ h1,⟨u,v,k TO (by simp) _ h2⟩,h3.at λo q=>k i1 (by simp) o q,h4.at λo q=>k i2 (by simp) o q⟩
 item:=by
  intro X hP hw hK hc i pins s σ H E I hf st hg
  subst hP hw hK
  obtain⟨hz,h1,⟨u0,v0,h2⟩,h3,h4⟩:=st
  obtain⟨xs,ys,x,y,hx,hy,ex,ey⟩:=hg
  obtain⟨its,rv,p,hzx⟩:=I.list hx
  obtain⟨jts,rw',p',hzy⟩:=I.list hy
  obtain⟨u,hu,ru⟩:=rv.get ex
  obtain⟨v,hv,rv'⟩:=rw'.get ey
  refine wpAny_pyNext_zip_item D hz h1 h2 h3 h4 p.isList p'.isList (x:=u) (y:=v) (by simpa using hu) (by simpa using hv) λh' a1 a2 a3 a4 a5 a6 hk=>?_
  refine⟨_,rfl,?_⟩
  refine wpAny_letOwnedTupleGo_zip (s:={s with heap:=h'}) a1 λh'' m1 m2=>?_
  have lt:∀ {c o},s.heap.get? c=some o->s.heap.objs.size≠c:=λe=>Nat.ne_of_gt (ay e)
  have keep:∀ b o,b∉ [z,TI,TO,i1,i2]->s.heap.get? b=some o->h''.get? b=some o:=λb o hb q=>m2.extBut b o (λz=>hb (by simp[z])) (hk b o (λz=>hb (by simp[z])) (λz=>hb (by simp[z])) (λz=>hb (by simp[z])) (λz=>hb (by simp[z])) q)
  have ht:h''.get? s.heap.objs.size=some {cls:=.type "tuple",data:=.seq [u,v].toArray} :=m2.extBut _ _ (lt hz) a5
  have J1:Inv X pins σ (upd H s.heap.objs.size (.tup [x,y])) {s with heap:=h'',toks:=s.toks} :=Inv.B9 I hf keep (.cons ru (.cons rv' .nil)) (by show 2<=sizeLine;decide) ht
  have hn:H s.heap.objs.size=none:=I.fresh
  refine⟨.ref s.heap.objs.size,_,J1,rfl,⟨_,hn,rfl,λxs' ys' x' y' q1 q2 q3 q4=>?_⟩,⟨m1,?_,⟨_,_,m2.extBut _ _ D.TOz a2⟩,a3.extBut m2.extBut D.i1z,a4.extBut m2.extBut D.i2z⟩,λc hb=>?_⟩
  ·have e1:=I.pE q1 hx
   have e2:=I.pE q2 hy
   subst e1 e2
   rw[ex]at q3
   rw[ey]at q4
   cases q3
   cases q4
   rfl
  ·exact m2.extBut _ _ D.TIz (hk _ _ D.TIz D.TITO D.TIi1 D.TIi2 h1)
  ·have q:∃ o,s.heap.get? c=some o:=by
    obtain⟨o3,q3,_,d3⟩:=h3
    obtain⟨o4,q4,_,d4⟩:=h4
    have hb':=hb
    simp only[aI,bP,dq]at hb'
    rcases hb' with rfl |rfl |rfl |rfl |rfl
    ·exact⟨_,hz⟩
    ·exact⟨_,h1⟩
    ·exact⟨_,h2⟩
    ·exact⟨_,q3⟩
    ·exact⟨_,q4⟩
   obtain⟨o,q⟩:=q
   rw[fE (aK (ay q))]
   exact(hf c hb).1
 done:=by
  intro X hP hw hK hc i pins s σ H E I hf st hg
  subst hP hw hK
  obtain⟨hz,h1,⟨u0,v0,h2⟩,h3,h4⟩:=st
  obtain⟨xs,ys,hx,hy,e⟩:=hg
  obtain⟨its,rv,p,hzx⟩:=I.list hx
  obtain⟨jts,rw',p',hzy⟩:=I.list hy
  have l1:=rv.length
  have l2:=rw'.length
  refine wpAny_pyNext_zip_end (I.ok.hd hc) D hz h1 h2 h3 h4 p.isList p'.isList ?_ λh' hk=>⟨rfl,Inv.Ff (t':=s.toks) I hf λb o hb q=>hk b o (λz=>hb (by simp[z])) (λz=>hb (by simp[z])) (λz=>hb (by simp[z])) (λz=>hb (by simp[z])) q⟩
  rcases e with e |e
  ·left;simp;omega
  ·right;simp;omega
 self:=λ_ _ _ _ _ ⟨hz,_⟩ h=>wpAny_pyIter_zip hz h
section
variable {X:Cx}
noncomputable def OC (K:PySem.W.Frag)(ta:TA):TI:=λσ H R=>ta σ H λvs H1=>∃ a b,vs = [.ref a,.ref b]/\(∃ xs,SqL K H1 a xs)/\(∃ ys,SqL K H1 b ys)/\R (Itz K a b) H1
theorem DR {a b:Expr}{ta:TA}{p pos:Pos}{es:List Expr}{x1:Nat}{pt:Pos}(hg:Gl X "zip")(hm:X.mg "zip" = none)(ha:PA X [a,b] ta)(hs:starEach [a,b] X.env = [(false,eval a X.env),(false,eval b X.env)]:=by rfl)(hs2:starEach [b] X.env = [(false,eval b X.env)]:=by rfl):
  PI X (.Tuple es x1 pt) (.Call (.Name "zip" p) [a,b] [] pos) (OC X.K ta):=by
 intro pins s σ H R I h
 refine Call_ (qC I hg hm boot_zip (cR (thn (ha pos pins s σ H _ I h) λus s1 ⟨vs,H1,I1,r1,q1⟩=>?_) (by rw[hs,hs2]) (by rw[hs2];rfl)))
 obtain⟨a,b,e,⟨xs,hx⟩,⟨ys,hy⟩,q⟩:=q1
 subst e
 obtain⟨u,v,rfl,ru,rv⟩:=vals2 r1
 cases ru
 cases rv
 obtain⟨its,rv,p,hzx⟩:=I1.list hx
 obtain⟨jts,rw',p',hzy⟩:=I1.list hy
 have la:a<s1.heap.objs.size:=by obtain⟨o,n,e,_⟩:=p;exact ay e
 have lb:b<s1.heap.objs.size:=by obtain⟨o,n,e,_⟩:=p';exact ay e
 refine call_zip_2 p.isList p'.isList λh' k1 k2 k3 k4 k5 k6 k7=>?_
 refine wpAny_pyIter_zip (s:={s1 with heap:=h'}) k1 ?_
 have D:ZipApart (s1.heap.objs.size+4) (s1.heap.objs.size+2) (s1.heap.objs.size+3) s1.heap.objs.size (s1.heap.objs.size+1) a b:=by
  generalize s1.heap.objs.size=z at la lb
  have la':@LT.lt Nat _ a z:=la
  have lb':@LT.lt Nat _ b z:=lb
  constructor<;>first |exact(show @Ne Nat _ _ by omega)
 refine⟨s1.heap.objs.size+4,[s1.heap.objs.size+4,s1.heap.objs.size+2,s1.heap.objs.size+3,s1.heap.objs.size,s1.heap.objs.size+1],_,_,H1,rfl,I1.kept (t':=s1.toks) k7,Dt D,⟨k1,k2,⟨_,_,k3⟩,k4,k5⟩,λc hc=>?_,q⟩
 have hb':s1.heap.objs.size<=c:=by
  simp only[aI,bP,dq]at hc
  rcases hc with rfl |rfl |rfl |rfl |rfl
  ·exact dN _ _
  ·exact dN _ _
  ·exact dN _ _
  ·exact ai _
  ·exact dN _ _
 exact I1.EJ hb' (I1.hok.fresh hb')
theorem BJ {K:PySem.W.Frag}{a b:Addr}{xs ys:List V}{g:TG}{tb:TS}{D:Ends}{σ:St}(n:Nat)(hn:n=min xs.length ys.length)(Pv:Nat->St->Hp->Prop)(h0:Pv 0 σ H)(hl:∀ i σ H,i<=n->Pv i σ H->SqL K H a xs/\SqL K H b ys)
  (hs:∀ i x y σ H p,xs[i]? = some x->ys[i]? = some y->Pv i σ H->H p=none->g (.ref p) σ (upd H p (.tup [x,y])) λσ2 H2=>tb {D with nx:=Pv (i+1),ct:=Pv (i+1),bk:=D.nx} σ2 H2) (hd:∀ σ H,Pv n σ H->D.nx σ H):
  ∃ W:Nat->Nat->St->Hp->Prop,(∃ m,W 0 m σ H)/\∀ i m σ H,W i m σ H->
   ((Itz K a b).stop i H/\D.nx σ H)\/((Itz K a b).go i H/\∃ N:St->Hp->Prop,(∀ σ' H',N σ' H'->∃ m',m'<m/\W (i+1) m' σ' H')/\∀ x H',(Itz K a b).yld i H x H'->g x σ H' λσ2 H2=>tb {D with nx:=N,ct:=N,bk:=D.nx} σ2 H2):=by
 refine⟨λi m σ H=>m=n-i/\i<=n/\Pv i σ H,⟨n,by simp,aP _,h0⟩,?_⟩
 rintro i m σ H ⟨rfl,hi,p⟩
 obtain⟨q1,q2⟩:=hl i σ H hi p
 by_cases hlt:i<n
 ·have h1:i<xs.length:=by omega
  have h2:i<ys.length:=by omega
  refine .inr ⟨⟨xs,ys,xs[i],ys[i],q1,q2,by simp[h1],by simp[h2]⟩,Pv (i+1),λσ' H' p'=>⟨n-(i+1),by omega,rfl,hlt,p'⟩,λx H' y=>?_⟩
  obtain⟨pa,hp,e,y⟩:=y
  subst e
  have hx:xs[i]? = some xs[i]:=by simp[h1]
  have hy:ys[i]? = some ys[i]:=by simp[h2]
  rw[y xs ys _ _ q1 q2 hx hy]
  exact hs i _ _ σ H pa hx hy p hp
 ·have e:i=n:=by omega
  subst e
  exact .inl ⟨⟨xs,ys,q1,q2,by omega⟩,hd σ H p⟩
theorem tL:∀ {bs:List Bool}{us:List Value},Vals (bs.map V.bl) us->us=bs.map Value.bool
 |[],_,.nil=>rfl
 |b::bs,_,.cons r t=>by
  cases r
  rw[tL t];rfl
theorem E1 (hc:X.calm=true):jN X (.builtin "all") (λxs H Q=>∃ (a:Addr) (bs:List Bool),xs = [.ref a]/\SqL X.K H a (bs.map V.bl)/\Q (.bl (bs.all id)) H):=by
 intro pins s σ H xs us Q I r h
 obtain⟨a,bs,rfl,hx,q⟩:=h
 obtain⟨u,rfl,ru⟩:=vals1 r
 cases ru
 obtain⟨its,rv,p,hz⟩:=I.list hx
 have e:=tL rv
 subst e
 have hl:=p.isList
 have hlt:a<s.heap.objs.size:=by obtain⟨_,e,_⟩:=hl;exact ay e
 refine call_all_walk (wpAny_pyIter_list hl ?_)
 refine⟨s.heap.objs.size,[s.heap.objs.size,a],[s.heap.objs.size],(bs.map Value.bool).toArray.size,_,_,λi=>(bs[i]?).getD true,rfl,Walks.list (A:=X.A.in1) (I.ok.hd hc) _ a (aK hlt) (bs.map Value.bool).toArray,
  ⟨⟨_,aR _ rfl,rfl,rfl⟩,hl.push _⟩,λi v s' Q' E' hP hQ=>?_,λh' tk hk=>?_⟩
 ·have hP':(bs.map Value.bool)[i]? = some v:=by simpa using hP
  rw[aq]at hP'
  cases q:bs[i]? with
  |none=>rw[q]at hP';cases hP'
  |some b=>
   rw[q]at hP'
   cases hP'
   have hQ':Q' b s':=by simpa [q]using hQ
   exact cJ hQ'
 ·have e:((List.range (bs.map Value.bool).toArray.size).all λi=>(bs[i]?).getD true)=bs.all id:=by
   rw[aE,aa];exact PyProof.Rows.LSm.range_all bs
  rw[e]
  have kk:∀ b x,s.heap.get? b=some x->h'.get? b=some x:=λb x e=>hk b x (λhm=>by rw[bp.mp hm]at e;exact cf _ (ay e)) (ak _ e)
  exact⟨.bl (bs.all id),H,I.kept (t':=tk) kk,rfl,q⟩
end
section
variable {K:PySem.W.Frag}{l:Addr}{g:TG}{tt:TT}{te:TE}{cap:List (Option Nat)}{σ:St}{Q:VK}{H1:Hp}{J:It}
theorem AR (n:Nat)(Pv:Nat->List V->Hp->Prop)(h0:Pv 0 [] (upd H1 l (.lst [])))(go:∀ i acc H,i<n->Pv i acc H->J.go i H)(st:∀ acc H,Pv n acc H->J.stop n H)
  (hs:∀ i x acc H H',i<n->Pv i acc H->J.yld i H x H'->g x (jh cap σ) H' λσ2 H2=>tt σ2 H2 λb H3=>
    if b=true then te σ2 H3 λy H4=>H4 l=some (.lst acc)/\acc.length<sizeLine/\Pv (i+1) (acc ++ [y]) (upd H4 l (.lst (acc ++ [y])))
    else Pv (i+1) acc H3) (hd:∀ acc H,Pv n acc H->Q (.ref l) H):LcW J g tt te cap σ Q l H1:=by
 refine⟨λi m acc H=>m=n-i/\i<=n/\Pv i acc H,⟨n,by simp,aP _,h0⟩,?_⟩
 rintro i m acc H ⟨rfl,hi,p⟩
 by_cases hlt:i<n
 ·exact .inr ⟨go i acc H hlt p,λwz H'=>Pv (i+1) wz H',λwz H' p'=>⟨n-(i+1),by omega,rfl,hlt,p'⟩,λx H' y=>hs i x acc H H' hlt p y⟩
 ·have e:i=n:=by omega
  subst e
  exact .inl ⟨st acc H p,hd acc H p⟩
theorem qa {α:Type}(n:Nat)(ds:List α)(p:α->Bool)(f:α->V)(hn:H1 l=none)(hlen:n=ds.length)(hz:n<sizeLine)(go:∀ i H,fk H1 H->i<n->J.go i H)(st:∀ H,fk H1 H->J.stop n H)
  (hs:∀ i x d H H',fk H1 H->J.yld i H x H'->ds[i]? = some d->∀ (P1:VK) (P0:Hp->Prop),(∀ H2,p d=true->fk H H2->P1 (f d) H2)->(∀ H2,p d=false->fk H H2->P0 H2)->
   g x (jh cap σ) H' λσ2 H2=>tt σ2 H2 λb H3=>if b=true then te σ2 H3 P1 else P0 H3)
  (hq:∀ H',fk H1 H'->H' l=some (.lst ((ds.filter p).map f))->Q (.ref l) H'):LcW J g tt te cap σ Q l H1:=by
 refine AR n (λi acc H=>acc=((ds.take i).filter p).map f/\fk H1 H/\H l=some (.lst acc)) ⟨rfl,eY hn,eZ⟩ (λi acc H hi ⟨_,s,_⟩=>go i H s hi) (λacc H ⟨_,s,_⟩=>st H s) ?_ ?_
 ·rintro i x acc H H' hi ⟨e1,s,hl⟩ y
  have hd:ds[i]? = some (ds[i]'(by omega)):=by simp
  generalize ds[i]'(by omega)=d at hd
  have step:((ds.take (i+1)).filter p).map f=acc++(if p d=true then[f d]else[]):=by
   rw[bR,hd,List.filter_append,aX,e1]
   congr 1
   by_cases hp:p d=true
   ·simp[hp]
   ·have hp':p d=false:=by simpa using hp
    simp[hp']
  have la:acc.length<sizeLine:=by
   have h1:acc.length<=i:=by
    rw[e1,aa]
    exact bq (bS _ _) (by rw[aN];omega)
   omega
  refine hs i x d H H' s y hd _ _ (λH2 hp s2=>?_) (λH2 hp s2=>?_)
  ·refine⟨s2 _ _ hl,la,?_,fk.upd (s.trans s2) hn,eZ⟩
   rw[step,aA hp]
  ·refine⟨?_,s.trans s2,s2 _ _ hl⟩
   rw[step,au (by rw[hp];exact aC),bN]
 ·rintro acc H ⟨e1,s,hl⟩
  rw[aO (by omega)]at e1
  subst e1
  exact hq H s hl
end
noncomputable def DF (S:Int->Bool)(k:Int):Int->Bool:=λk'=>S k'||decide (k'=k)
noncomputable def Ee (S:Int->Bool)(n:Nat)(k:Int):Nat:=if S k=true then n else n+1
section
variable {X:Cx}{pins:List (Addr×Obj)}{σ:St}{H:Hp}{s:Shared}
theorem Inv.setM {l:Addr}{S:Int->Bool}{n:Nat}(I:Inv X pins σ H s)(h:H l=some (.set S n)):s.heap.SetOf (intKind X.prog X.w) l S n:=I.hok l _ h
theorem isInt_self (k:Int)(t:Tok):Value.isInt k (.int k t)=true:=by simp[Value.isInt]
noncomputable def IP:V->List V->Hp->VK->Prop:=λx vs H Q=>∃ l S n k,x = .ref l/\vs = [.int k]/\H l=some (.set S n)/\n+1<scanBound/\Q .non (upd H l (.set (DF S k) (Ee S n k)))
theorem FF:MtR X "set.add" IP:=by
 intro pins s σ H x vs v us Q I rx rv h
 obtain⟨l,S,n,k,rfl,rfl,hH,hb,q⟩:=h
 cases rx
 obtain⟨u,rfl,t,rfl⟩:=rv.one
 have hS:=Inv.setM I hH
 refine call_set_add (knd:=intKind X.prog X.w) (k:=k) (isInt_self k t) rfl hS hb λh' sb hS'=>?_
 refine⟨.non,_,I.write (t':=s.toks+1) (o:=.set (DF S k) (Ee S n k)) (x:=l) (e:=l) (by rw[hH];exact trivial) (.inl rfl) (λb u hb e=>sb.extBut b u hb e) ?_ ?_,rfl,q⟩
 ·obtain⟨o,_,_,_,e,_⟩:=hS';exact⟨o,e⟩
 ·exact hS'
theorem xh:jN X (.builtin "len") (λxs H Q=>∃ p S n,xs = [.ref p]/\H p=some (.set S n)/\Q (.int n) H):=by
 intro pins s σ H xs us Q I r h
 obtain⟨p,S,n,rfl,hH,q⟩:=h
 obtain⟨u,rfl,rx⟩:=vals1 r
 cases rx
 obtain⟨o,es,ep,t,e,hex,hd,hel,hm,hb,hf,hn⟩:=Inv.setM I hH
 refine call_len_set e hex hd hf ?_ ⟨.int n,H,I.tok _,⟨_,by rw[hn]⟩,q⟩
 have:scanBound=4096:=rfl
 omega
end
section
variable {X:Cx}{pins:List (Addr×Obj)}{σ:St}{H1:Hp}{s2:Shared}{scope:Scope}{N:List Str}{own:Nat}{cap:List (Option Nat)}{cl:List (Str×Addr)}{fp:List Addr}
 {tg iter elt:Expr}{ifs:List Expr}{pos:Pos}{g:TG}{tt:TT}{te:TE}{wi:TI}
noncomputable def ScW (J:It)(g:TG)(tt:TT)(te:TE)(cap:List (Option Nat))(σ:St)(Q:VK)(l:Addr)(H1:Hp):Prop:=
 ∃ W:Nat->Nat->Hp->Prop,(∃ m,W 0 m (upd H1 l (.set (λ_=>false) 0)))/\∀ i m H,W i m H->
  (J.stop i H/\Q (.ref l) H)\/(J.go i H/\∃ N:Hp->Prop,(∀ H',N H'->∃ m',m'<m/\W (i+1) m' H')/\
   ∀ x H',J.yld i H x H'->g x (jh cap σ) H' λσ2 H2=>tt σ2 H2 λb H3=>
    if b=true then te σ2 H3 λy H4=>∃ S n k,y = .int k/\H4 l=some (.set S n)/\n+1<scanBound/\N (upd H4 l (.set (DF S k) (Ee S n k)))
    else N H3)
noncomputable def tSC (wi:TI)(cap:List (Option Nat))(g:TG)(tt:TT)(te:TE):TE:=λσ H Q=>wi σ H λJ H1=>∀ l,H1 l=none->
 ScW J g tt te cap σ Q l H1
theorem CY {it:Addr}{tn:Nat->Heap->Prop}{J:It}{Q:VK}{RR:Value->Addr->Result->Shared->Prop}{E:Value->Shared->Prop}(I:Inv X pins σ H1 s2)(T:Turn X.prog X.w X.K tg J fp it tn)(t0:tn 0 s2.heap)
  (f:∀ b∈fp,nC X pins H1 b) (hc:X.calm=true) (C:gq X.env.scope X.N scope N own cap) (ho:t5 own g)
  (mG:∀ x c,cl.lookup x=some c->X.env.cells.lookup x=some c) (qj:∀ y∈scope.names,y.2 = .free->∃ c,cl.lookup y.1=some c)
  (hg:∀ s3 H3,PG (gK X scope cl N fp s3 H3) tg g) (ht:∀ s3 H3,yD (gK X scope cl N fp s3 H3) ifs tt) (he:∀ s3 H3,PE (gK X scope cl N fp s3 H3) elt te)
  (hw:∀ l,H1 l=none->ScW J g tt te cap σ Q l H1)
  (fin:∀ l C s' H' m',Inv X pins σ H' s'->s'.heap.Ns C m'->H' C=none->Apart X pins C->Q (.ref l) H'->RR (.ref l) C (.ok .next) s'):
  wpAny (model X.prog X.w) X.A (newSet (.type "set")) (λacc s₃=>wpAny (model X.prog X.w) X.A (newFunctionEnv scope X.env.globals cl [] X.env.qual none .none (some X.env)) (λcenv s₄=>
   codeAny (model X.prog X.w) X.A (.compStart (.SetComp elt [⟨tg,iter,ifs,0⟩] scope pos) 0 (.ref it) acc {cenv with scope:=relabel scope X.env}) (RR acc cenv.locals) s₄) E s₃) E s2:=by
 refine wpAny_newSet_of (knd:=intKind X.prog X.w) λled OG=>?_
 refine wpAny_newFunctionEnv C.yb (by intro y hy;simp at hy) (λh₁ mF mE=>?_) C.kind
 dsimp only at mF mE ⊢
 obtain⟨W,⟨m0,w0⟩,turn⟩:=hw s2.heap.objs.size I.fresh
 have I3:Inv X pins σ (upd H1 s2.heap.objs.size (.set (λ_=>false) 0)) {s2 with heap:=s2.heap.push {cls:=.type "set",dict:=none,data:=.set #[] 0 (.fresh 0 0 led)}} :=
  I.laid (t':=s2.toks) (λb u e=>ak _ e) (ai _) OG
 generalize hs3:({s2 with heap:=s2.heap.push {cls:=.type "set",dict:=none,data:=.set #[] 0 (.fresh 0 0 led)}} :Shared)=s3 at I3
 have hh3:s3.heap=s2.heap.push {cls:=.type "set",dict:=none,data:=.set #[] 0 (.fresh 0 0 led)} :=by rw[<-hs3]
 rw[<-hh3]at mF mE ⊢
 have e4:({s2 with heap:=h₁,toks:=s2.toks+([]:List (Str×Value)).length} :Shared) = {s3 with heap:=h₁,toks:=s2.toks} :=by rw[<-hs3];rfl
 rw[e4]
 have k4:∀ b u,s3.heap.get? b=some u->h₁.get? b=some u:=λb u e=>mE.extBut b u (aK (ay e)) (ak _ e)
 have k3:∀ b u,s2.heap.get? b=some u->s3.heap.get? b=some u:=λb u e=>by rw[hh3];exact ak _ e
 have hb2:∀ b∈fp,b<s2.heap.objs.size:=λb hb=>by obtain⟨o,e,_⟩:=T.obj _ _ t0 b hb;exact ay e
 have f3:∀ b∈fp,nC X pins (upd H1 s2.heap.objs.size (.set (λ_=>false) 0)) b:=λb hb=>by
  obtain⟨f0,fr⟩:=f b hb
  exact⟨by rw[fE (aK (hb2 b hb))];exact f0,fr⟩
 have hb3:∀ b∈fp,b<s3.heap.objs.size:=λb hb=>by obtain⟨o,e,_⟩:=T.obj _ _ t0 b hb;exact ay (k3 b o e)
 have I4:=vp (tk:=s2.toks) I3 C mG qj (λb hb=>⟨f3 b hb,hb3 b hb⟩) mF k4
 generalize hH3:upd H1 s2.heap.objs.size (.set (λ_=>false) 0)=H3 at *
 have st4:tn 0 h₁:=T.keep _ _ _ t0 λb hb o e=>k4 b o (k3 b o e)
 have fpX:∀ {H':Hp},(∀ b∈fp,H' b=none)->∀ b∈fp,nC (gK X scope cl N fp s3 H3) [] H' b:=λ{H'} hn b hb=>by
  obtain⟨f0,f1,f2,f3',f4,f5⟩:=f3 b hb
  refine⟨hn b hb,aK (hb3 b hb),λhz=>?_,.inl hb,λx c e=>f4 x c (mG x c e),λp hp=>absurd (show p∈([]:List (Addr×Obj)) from hp) (by simp)⟩
  rcases aI.mp (I3.nX b hz)with z |z
  ·exact f1 z
  ·exact f2 z
 have loop:codeAny (model X.prog X.w) X.A (.compLoop (.SetComp elt [⟨tg,iter,ifs,0⟩] scope pos) 0 (.ref it) (.ref s2.heap.objs.size) (compEnvC scope cl s3.heap.objs.size X.env)) (RR (.ref s2.heap.objs.size) s3.heap.objs.size) {s3 with heap:=h₁,toks:=s2.toks} :=by
  refine yv (λn s'=>∃ i H',Inv (gK X scope cl N fp s3 H3) [] (jh cap σ) H' s'/\tn i s'.heap/\(∀ b∈fp,H' b=none)/\W i n H') ?_ m0 ⟨0,H3,I4,st4,λb hb=>(f3 b hb).1,w0⟩
  rintro n s' ⟨i,H',I',st,fr,w⟩
  rcases turn i n H' w with⟨stop,q⟩|⟨go,NN,hNN,step⟩
  ·refine thn (T.done (gK X scope cl N fp s3 H3) rfl rfl rfl hc i [] s' _ H' (λ_ _=>False) I' (fpX fr) st stop) λr s5 ⟨hr,I5⟩=>?_
   subst hr
   obtain⟨m5,hn5,_⟩:=id I5.loc
   exact fin _ _ s5 H' m5 (comp_back I3 f3 I5) hn5 I5.free (TL.Inv.apart I3) q
  ·refine thn (T.item (gK X scope cl N fp s3 H3) rfl rfl rfl hc i [] s' _ H' (λ_ _=>False) I' (fpX fr) st go) λr s5 ⟨u,hr,h5⟩=>?_
   subst hr
   refine thn h5 λ_ s6 ⟨x,H6,I6,r6,y6,st6,fr6⟩=>?_
   have I6':=I6.pinned (fpX fr6) (T.obj _ _ st6)
   refine thn (hg s3 H3 _ s6 _ H6 x u _ I6' r6 (ho.own _ _ _ _ (step x H6 y6))) λ_ s7 ⟨σ7,H7,I7,q7,l7,o7⟩=>?_
   have cov:∀ (i:Nat) v,(jh cap σ)[i]? = some (some v)->σ7[i]? = some (some v):=λi v e=>by
    obtain⟨j,c1,c2⟩:=qe e
    by_cases hi:i<own
    ·exact(C.uK hi c1).elim
    ·rw[o7 i (by omega)];exact e
   have back:∀ {H8:Hp}{s8:Shared},Inv (gK X scope cl N fp s3 H3) ([]++qx fp s6.heap) σ7 H8 s8->Inv (gK X scope cl N fp s3 H3) [] (jh cap σ) H8 s8/\tn (i+1) s8.heap/\∀ b∈fp,H8 b=none:=λ{H8 s8} I8=>by
    refine⟨(Inv.nE (pins:=[]) I8).weak l7.symm cov,T.keep _ _ _ st6 λb hb o e=>(I8.pin (b,o) (aL _ (aL _ (ju hb e)))).1,λb hb=>?_⟩
    obtain⟨o,e,d⟩:=T.obj _ _ st6 b hb
    exact(I8.pin (b,o) (aL _ (aL _ (ju hb e)))).2.1
   refine thn (ht s3 H3 _ s7 σ7 H7 _ I7 q7) λb s8 ⟨H8,I8,q8⟩=>?_
   cases b with
   |false=>
    rw[au aC]at q8 ⊢
    obtain⟨m',hm,w8⟩:=hNN _ q8
    obtain⟨J1,J2,J3⟩:=back I8
    exact⟨m',hm,i+1,H8,J1,J2,J3,w8⟩
   |true=>
    rw[aA rfl]at q8 ⊢
    refine thn (he s3 H3 _ s8 σ7 H8 _ I8 q8) λv s9 ⟨y,H9,I9,r9,S,nn,k,ey,ha,hz,n9⟩=>?_
    obtain⟨m',hm,w9⟩:=hNN _ n9
    subst ey
    refine thn (FF _ s9 σ7 H9 (.ref s2.heap.objs.size) [.int k] (.ref s2.heap.objs.size) [v] (λ_ H10=>W (i+1) m' H10) I9 rfl (.cons r9 .nil) ⟨_,S,nn,k,rfl,rfl,ha,hz,w9⟩) λ_ s10 ⟨_,H10,I10,_,w10⟩=>?_
    obtain⟨J1,J2,J3⟩:=back I10
    exact⟨m',hm,i+1,H10,J1,J2,J3,w10⟩
 exact wu loop (T.self X.A 0 _ _ _ st4 loop)
theorem IW (hi:PI X tg iter wi)(hc:X.calm=true)(C:gq X.env.scope X.N scope N own cap)(ho:t5 own g)
  (hg:∀ cl fp s3 H3,PG (gK X scope cl N fp s3 H3) tg g) (ht:∀ cl fp s3 H3,yD (gK X scope cl N fp s3 H3) ifs tt) (he:∀ cl fp s3 H3,PE (gK X scope cl N fp s3 H3) elt te)
  (hs:∀ x,foldedSetIterable iter X.env x=pure x:=by intro _;rfl):PE X (.SetComp elt [⟨tg,iter,ifs,0⟩] scope pos) (tSC wi cap g tt te):=by
 intro pins s σ H Q I h
 obtain⟨cl,ecl,mG,qj⟩:=oz (scope:=scope) (env:=X.env) λy hy hf=>I.ok.has y.1 (C.fre y hy hf)
 rw[arm_eval_SetComp]
 refine wpAny_comprehension_free (use:=none) rfl hs ecl C.kind C.loc (thn (hi pins s σ H _ I h) λxv s1 h1=>thn h1 λitv s2 h2=>?_)
 obtain⟨it,fp,tn,J,H2,e,I2,T,st2,f2,hw⟩:=h2
 subst e
 refine CY (RR:=λacc C=>compPost (model X.prog X.w) X.A X.xe none (EP X pins σ Q) acc C) I2 T st2 f2 hc C ho mG qj (hg cl fp) (ht cl fp) (he cl fp) hw λl Ca s' H' m' I' hn mZ hP q=>?_
 exact⟨m',hn,λh'' AX=>⟨.ref l,H',nN I' hP mZ AX,rfl,q⟩⟩
end
noncomputable def dn (ks:List Int):Nat->Nat
 | 0=>0
 |i+1=>if ks.getD i 0∈ks.take i then dn ks i else dn ks i+1
theorem BN (ks:List Int):∀ i,dn ks i<=i
 | 0=>ai _
 |i+1=>by
  have:=BN ks i
  unfold dn
  split<;>omega
theorem GG {ks:List Int} :∀ {i},dn ks i=i↔∀ j,j<i->ks.getD j 0∉ks.take j
 | 0=>⟨λ_ j h=>absurd h (Nat.not_lt_zero j),λ_=>rfl⟩
 |i+1=>by
  have h1:=BN ks i
  have h2:=@GG ks i
  unfold dn
  constructor
  ·intro h j hj
   split at h
   ·omega
   ·rcases de.mp hj with z |z
    ·exact h2.mp (by omega) j z
    ·subst z;assumption
  ·intro h
   rw[au (h i (by omega)),h2.mpr λj hj=>h j (by omega)]
theorem AJ (ks:List Int):ks.Nodup↔∀ j,j<ks.length->ks.getD j 0∉ks.take j:=by
 constructor
 ·intro h j hj hm
  obtain⟨i,hi,e⟩:=bK.mp hm
  rw[aN]at hi
  rw[dz]at e
  have e2:ks.getD j 0=ks[j]:=by rw[bw,ao hj];rfl
  rw[e2]at e
  have:=(List.getElem_inj h).mp e
  omega
 ·intro h
  rw[List.Nodup,bD]
  intro i j hi hj hij e
  refine h j hj ?_
  have e2:ks.getD j 0=ks[j]:=by rw[bw,ao hj];rfl
  rw[e2,<-e]
  exact bK.mpr ⟨i,by rw[aN];omega,by rw[dz]⟩
theorem EN (ks:List Int):dn ks ks.length=ks.length↔ks.Nodup:=GG.trans (AJ ks).symm
theorem BM (ks:List Int):dn ks ks.length<ks.length↔¬ks.Nodup:=by
 rw[<-EN]
 have:=BN ks ks.length
 omega
theorem take_snoc {ks:List Int}{i:Nat}(hi:i<ks.length):ks.take (i+1)=ks.take i ++ [ks.getD i 0]:=by
 rw[bR,bw,ao hi];rfl
theorem Cn {ks:List Int}{i:Nat}(hi:i<ks.length):DF (λk=>decide (k∈ks.take i)) (ks.getD i 0) = λk=>decide (k∈ks.take (i+1)):=by
 funext k
 rw[take_snoc hi]
 simp[DF]
theorem Cz (ks:List Int)(i:Nat):Ee (λk=>decide (k∈ks.take i)) (dn ks i) (ks.getD i 0)=dn ks (i+1):=by
 unfold Ee
 rw[dn]
 by_cases h:ks.getD i 0∈ks.take i
 ·rw[aA h,aA (by simpa using h)]
 ·rw[au h,au (by simpa using h)]
section
variable {X:Cx}
theorem xf (ns:List Int):∀ i,i<=ns.length->(firstMet (λi=>ns.getD i 0) i).length=dn ns i/\∀ k,(firstMet (λi=>ns.getD i 0) i).any (· == k)=decide (k∈ns.take i)
 | 0,_=>⟨by rw[firstMet_zero];rfl,λk=>by rw[firstMet_zero];simp⟩
 |i+1,hi=>by
  obtain⟨h1,h2⟩:=xf ns i (by omega)
  refine⟨?_,λk=>?_⟩
  ·rw[firstMet_succ,step_length,h2,h1,dn]
   by_cases h:ns.getD i 0∈ns.take i
   ·rw[aA h,aA (by simpa using h)]
   ·rw[au h,au (by simpa using h)]
  ·rw[firstMet_succ,step_any,h2,take_snoc (by omega)]
   simp
theorem C8 (hc:X.calm=true):jN X (.type "set") (λxs H Q=>∃ (a:Addr) (ns:List Int),xs = [.ref a]/\SqL X.K H a (ns.map V.int)/\ns.length+1<scanBound/\
  ∀ p,H p=none->Q (.ref p) (upd H p (.set (λk=>decide (k∈ns)) (dn ns ns.length)))):=by
 intro pins s σ H xs us Q I r h
 obtain⟨a,ns,rfl,hx,hb,q⟩:=h
 obtain⟨u,rfl,ru⟩:=vals1 r
 cases ru
 obtain⟨its,rv,p,hz⟩:=I.list hx
 have hl:=rv.length
 rw[aa]at hl
 refine call_set_list (ns:=ns) (I.ok.hd hc) p.isList (intsAre_of rv) (by rw[aE,<-hl];exact hb) λh' tk hS hk=>?_
 have hsz:its.toArray.size=ns.length:=by rw[aE,<-hl]
 rw[hsz]at hS
 obtain⟨e1,e2⟩:=xf ns ns.length (ai _)
 rw[e1]at hS
 have e3:(λk'=>(firstMet (λi=>ns.getD i 0) ns.length).any (· == k')) = λk=>decide (k∈ns):=by
  funext k
  rw[e2,bW]
 rw[e3]at hS
 exact⟨.ref s.heap.objs.size,_,I.laid (t':=tk) (o:=.set (λk=>decide (k∈ns)) (dn ns ns.length)) (λb u e=>hk b u (ay e) e) (ai _) hS,rfl,q _ I.fresh⟩
end
section
variable {l:Addr}{g:TG}{tt:TT}{te:TE}{cap:List (Option Nat)}{σ:St}{Q:VK}{H1:Hp}{J:It}
theorem DE {α:Type}{n:Nat}{it:Nat->V->Prop}(S:JS J n H1 it)(ds:List α)(f:α->Int)(hn:H1 l=none)(hlen:n=ds.length)(hz:n+1<scanBound)
  (hs:∀ (i:Nat) x d H,it i x->ds[i]? = some d->fk H1 H->∀ (P1:VK) (P0:Hp->Prop),P1 (.int (f d)) H->
   g x (jh cap σ) H λσ2 H2=>tt σ2 H2 λb H3=>if b=true then te σ2 H3 P1 else P0 H3)
  (hq:Q (.ref l) (upd H1 l (.set (λk=>decide (k∈ds.map f)) (dn (ds.map f) n)))):ScW J g tt te cap σ Q l H1:=by
 refine⟨λi m H=>m=n-i/\i<=n/\H=upd H1 l (.set (λk=>decide (k∈(ds.map f).take i)) (dn (ds.map f) i)),⟨n,by simp,aP _,?_⟩,?_⟩
 ·congr 2
 rintro i m H ⟨rfl,hi,e2⟩
 have sm:fk H1 H:=by rw[e2];exact eY hn
 by_cases hlt:i<n
 ·refine .inr ⟨S.go i H sm hlt,λH'=>H'=upd H1 l (.set (λk=>decide (k∈(ds.map f).take (i+1))) (dn (ds.map f) (i+1))),λH' p2=>⟨n-(i+1),by omega,rfl,hlt,p2⟩,λx H' y0=>?_⟩
  obtain⟨e,y⟩:=S.yld i H x H' sm hlt y0
  clear y0
  subst e
  have hd:ds[i]? = some (ds[i]'(by omega)):=by simp
  generalize ds[i]'(by omega)=d at hd
  refine hs i x d H' y hd sm _ _ ⟨_,_,f d,rfl,by rw[e2];exact eZ,?_,?_⟩
  ·have:=BN (ds.map f) i
   omega
  ·have e3:(ds.map f).getD i 0=f d:=by rw[bw,aq,hd];rfl
   have h1:=Cn (ks:=ds.map f) (i:=i) (by rw[aa];omega)
   have h2:=Cz (ds.map f) i
   rw[e3]at h1 h2
   rw[h1,h2,e2,nU]
 ·have e:i=n:=by omega
  subst e
  refine .inl ⟨S.stop H sm,?_⟩
  rw[e2,aO (by rw[aa];omega)]
  exact hq
end
noncomputable def hid (p:Addr)(H:Hp):Hp:=λb=>if b=p then none else H b
variable {p:Addr}
theorem pF:fk (hid p H) H:=λb o h=>by
 unfold hid at h
 by_cases e:b=p
 ·rw[aA e]at h;cases h
 ·rw[au e]at h;exact h
theorem ow {b:Addr}(h:b≠p):hid p H b=H b:=by unfold hid;rw[au h]
theorem vz:hid p H p=none:=by unfold hid;rw[aA rfl]
theorem zS {H':Hp}(s:fk H H'):fk (hid p H) (hid p H'):=λb o h=>by
 by_cases e:b=p
 ·subst e;rw[vz]at h;cases h
 ·rw[ow e]at h ⊢;exact s _ _ h
theorem yn {o:HO} :hid p (upd H p o)=hid p H:=by
 funext b
 by_cases e:b=p
 ·subst e;rw[vz,vz]
 ·rw[ow e,ow e,fE e]
theorem FU {K:PySem.W.Frag}{a:Addr}{vs xs:List V}(hp:H p=some (.lst vs))(h:SqT K H a xs):SqT K (hid p H) a xs:=by
 rcases h with(h |⟨o,h⟩)|h
 ·exact .inl (.inl (by rw[ow (zE h hp (by intro z;cases z))];exact h))
 ·exact .inl (.inr ⟨o,by rw[ow (zE h hp (by intro z;cases z))];exact h⟩)
 ·exact .inr h
theorem EX (xs:List V){i:Int}(h:0<=i):oZ xs none (some i)=xs.take i.toNat:=by
 unfold oZ
 rw[HT.qW]
 have e:HT.sIx xs.length xs.length (some i)=min i.toNat xs.length:=by
  have:=HT.xM xs.length xs.length i.toNat
  rw[show((i.toNat:Nat):Int)=i by omega]at this
  exact this
 rw[e,List.drop_zero,Nat.sub_zero]
 by_cases h2:i.toNat<=xs.length
 ·rw[Nat.min_eq_left h2]
 ·rw[Nat.min_eq_right (by omega),aO (ai _),aO (by omega)]
theorem EY (xs:List V){i:Int}(h:0<=i):oZ xs (some i) none=xs.drop i.toNat:=by
 unfold oZ
 rw[HT.qW]
 have e:HT.sIx xs.length 0 (some i)=min i.toNat xs.length:=by
  have:=HT.xM xs.length 0 i.toNat
  rw[show((i.toNat:Nat):Int)=i by omega]at this
  exact this
 rw[e]
 by_cases h2:i.toNat<=xs.length
 ·rw[Nat.min_eq_left h2,aO (by rw[bC];omega)]
 ·rw[Nat.min_eq_right (by omega),List.drop_of_length_le (ai _),List.drop_of_length_le (by omega),List.take_nil]
theorem E4 {xs:List V}{v:V}{i:Int}(h0:0<=i)(h:xs[i.toNat]? = some v):atI xs i=some v:=by
 have:=jS h
 rw[show((i.toNat:Nat):Int)=i by omega]at this
 exact this
section
variable {K:PySem.W.Frag}{l:Addr}{g:TG}{tt:TT}{te:TE}{cap:List (Option Nat)}{σ:St}{Q:VK}{H1:Hp}{J:It}
theorem FK {α:Type}(n:Nat)(ds:List α)(d':α->PyData)(hn:H1 l=none)(hlen:n=ds.length)(hz:n<sizeLine)(go:∀ i H,fk H1 H->i<n->J.go i H)(st:∀ H,fk H1 H->J.stop n H)
  (hs:∀ i x d H H',fk H1 H->(∃ us,H l=some (.lst us))->J.yld i H x H'->ds[i]? = some d->∀ (P1:VK) (P0:Hp->Prop),(∀ v H2,fk H H2->Da K (hid l H2) (d' d) v->P1 v H2)->
   g x (jh cap σ) H' λσ2 H2=>tt σ2 H2 λb H3=>if b=true then te σ2 H3 P1 else P0 H3)
  (hq:∀ vs H',fk H1 H'->H' l=some (.lst vs)->Das K (hid l H') (ds.map d') vs->Q (.ref l) H'):LcW J g tt te cap σ Q l H1:=by
 refine AR n (λi acc H=>Das K (hid l H) ((ds.take i).map d') acc/\fk H1 H/\H l=some (.lst acc)) ⟨gQ.mpr rfl,eY hn,eZ⟩ (λi acc H hi ⟨_,s,_⟩=>go i H s hi) (λacc H ⟨_,s,_⟩=>st H s) ?_ ?_
 ·rintro i x acc H H' hi ⟨e1,s,hl⟩ y
  have hd:ds[i]? = some (ds[i]'(by omega)):=by simp
  generalize ds[i]'(by omega)=d at hd
  refine hs i x d H H' s ⟨_,hl⟩ y hd _ _ (λv H2 s2 dv=>?_)
  have la:=Dgs.length e1
  rw[aa,aN]at la
  refine⟨s2 _ _ hl,by omega,?_,fk.upd (s.trans s2) hn,eZ⟩
  rw[yn,bR,hd,aX]
  exact Dgs.append (Das.same (zS s2) e1) (Dgs.one dv)
 ·rintro acc H ⟨e1,s,hl⟩
  rw[aO (by omega)]at e1
  exact hq acc H s hl e1
end
end TL
namespace TL
open PySem PySem.Spec PyProof.Rows PySem.W
noncomputable def FW:Bool->Keyed->Array Keyed->Nat->Nat->Nat->StateT SortSt Sem (Option Nat):=sortPriv% PySem.Builtin.gallop
noncomputable def Orc (prog:Program)(w:World)(A:Around)(s:Shared)(κ:SortKind)(key:Keyed->Int)(D:Keyed->Prop):Prop:=
 ∀ x y,D x->D y->∀ Q:Bool->Shared->Prop,Q (decide (key x<key y)) s->wpAny (model prog w) A (keyLt' κ x.1 y.1) Q (λ_ _=>False) s
variable {x y k:Keyed}{arr:Array Keyed}{i j base n:Nat}
section
variable {prog:Program}{w:World}{A:Around}{E:Value->Shared->Prop}{s:Shared}{κ:SortKind}{key:Keyed->Int}{D:Keyed->Prop}
theorem kO {α:Type}{m:Sem α}{Q:α->SortSt->Prop}{st:SortSt}(h:wpAny (model prog w) A m (λa s'=>s'=s/\Q a st) E s):wpS (model prog w) A E s (liftM m:StateT SortSt Sem α) Q st:=by
 unfold wpS
 show wpAny (model prog w) A ((StateT.lift m:StateT SortSt Sem α).run st) _ E s
 rw[StateT.run_lift]
 exact ae (aY h (λa s' h'=>aj h') λ_ _ e=>e)
theorem uM (O:Orc prog w A s κ key D)(hx:D x)(hy:D y){st:SortSt}(hk:kindOf st=κ){Q:Option Bool->SortSt->Prop}(h:Q (some (decide (key x<key y))) st):wpS (model prog w) A E s (lt' x y) Q st:=by
 rw[lt'_eq]
 refine ax (wpS_get ?_)
 rw[hk]
 refine ax (kO (wpAny_attempt (aY (O x y hx hy (λb s'=>s'=s/\b=decide (key x<key y)) ⟨rfl,rfl⟩) (λc s' hc=>⟨hc.1,?_⟩) λ_ _ hF=>hF.elim)))
 rw[hc.2]
 exact aF h
theorem gP (h:arr[i]? = some x){st:SortSt}{Q:Keyed->SortSt->Prop}(hq:Q x st):wpS (model prog w) A E s (elem' arr i) Q st:=by
 rw[elem'_eq,h]
 exact aF hq
noncomputable def Ka (key:Keyed->Int)(arr:Array Keyed)(i:Nat):Int:=key (arr.getD i (Value.none,Value.none))
theorem iN (h:arr[i]? = some x):Ka key arr i=key x:=by
 unfold Ka
 rw[bg,h];rfl
theorem gU (h:i<arr.size):∃ x,arr[i]? = some x:=⟨_,aS h⟩
noncomputable def Bey (key:Keyed->Int)(left:Bool)(k:Keyed)(arr:Array Keyed)(base i:Nat):Bool:=if left=true then decide (Ka key arr (base+i)<key k)else !(decide (key k<Ka key arr (base+i)))
theorem Di (O:Orc prog w A s κ key D){left:Bool}(hkD:D k)(hA:∀ (i:Nat) x,arr[i]? = some x->D x)(hj:j<arr.size)(e:j=base+i){st:SortSt}(hk:kindOf st=κ){Q:Option Bool->SortSt->Prop}(h:Q (some (Bey key left k arr base i)) st):
  wpS (model prog w) A E s (do let x <-elem' arr j;if left=true then lt' x k else do let r <-lt' k x;pure (r.map (!·)):StateT SortSt Sem (Option Bool)) Q st:=by
 obtain⟨x,hx⟩:=gU hj
 have hK:=iN (key:=key) hx
 refine ax (gP hx ?_)
 unfold Bey at h
 rw[<-e,hK]at h
 cases left with
 |true=>
  rw[aA rfl]at h ⊢
  exact uM O (hA _ _ hx) hkD hk h
 |false=>
  rw[au (by decide)]at h ⊢
  exact ax (uM O hkD (hA _ _ hx) hk (aF h))
noncomputable def Cut (P:Nat->Bool)(n k:Nat):Prop:=k<=n/\(∀ i,i<k->P i=true)/\∀ i,k<=i->i<n->P i=false
theorem mh (O:Orc prog w A s κ key D){left:Bool}(hkD:D k)(hA:∀ (i:Nat) x,arr[i]? = some x->D x){hint:Nat}(hn:base+n<=arr.size)(hh:hint<n)
  (mono:∀ i j,i<=j->j<n->Bey key left k arr base j=true->Bey key left k arr base i=true) {st:SortSt} (hk:kindOf st=κ) {Q:Option Nat->SortSt->Prop} (h:∀ m,Cut (Bey key left k arr base) n m->Q (some m) st):
  wpS (model prog w) A E s (FW left k arr base n hint) Q st:=by
 have B:∀ i,i<n->∀ R:Option Bool->SortSt->Prop,R (some (Bey key left k arr base i)) st->wpS (model prog w) A E s (do let x <-elem' arr (base+i);if left=true then lt' x k else do let r <-lt' k x;pure (r.map (!·)):StateT SortSt Sem (Option Bool)) R st:=λi hi R hR=>Di O hkD hA (by omega) rfl hk hR
 generalize Bey key left k arr base=P at *
 have Ia:∀ i j,i<=j->j<n->P i=false->P j=false:=λi j h1 h2 h3=>by
  cases q:P j with
  |false=>rfl
  |true=>rw[mono i j h1 h2 q]at h3;cases h3
 refine ax (B hint hh _ ?_)
 dsimp only
 cases hr:P hint
 case' true=>
  rw[aA rfl]
  refine ax (cN (bI (I:=λx c st'=>st=st'/\∃ l o,c=(none,l,o)/\l<o/\hint+l<n/\P (hint+l)=true/\x+1<=o)
   (Q:=λc st'=>st=st'/\∃ l o,c=(none,l,o)/\l<o/\hint+l<n/\P (hint+l)=true/\(n-hint<=o\/(hint+o<n/\P (hint+o)=false))) ?_ ?_ ⟨rfl,0,1,rfl,by omega,by omega,hr,by omega⟩) ?_)
  ·rintro x c st' _ hx ⟨rfl,l,o,rfl,h1,h2,h3,h4⟩
   dsimp only
   by_cases g:o≥n-hint
   ·rw[aA g];exact aF ⟨rfl,l,o,rfl,h1,h2,h3,.inl g⟩
   ·rw[au g]
    refine ax (B (hint+o) (by omega) _ ?_)
    cases q:P (hint+o)with
    |false=>exact aF ⟨rfl,l,o,rfl,h1,h2,h3,.inr ⟨by omega,q⟩⟩
    |true=>exact aF ⟨rfl,o,2*o+1,rfl,by omega,by omega,q,by omega⟩
  ·rintro c st' ⟨rfl,l,o,rfl,h1,h2,h3,h4⟩
   exact⟨rfl,l,o,rfl,h1,h2,h3,.inl (by omega)⟩
  rintro c st' ⟨rfl,l,o,rfl,h1,h2,h3,h4⟩
  dsimp only
  have a1:hint+l+1<=hint+min o (n-hint):=by omega
  have a2:hint+min o (n-hint)<=n:=by omega
  have a3:∀ i,i<hint+l+1->P i=true:=λi hi=>mono i (hint+l) (by omega) h2 h3
  have a4:∀ i,hint+min o (n-hint)<=i->i<n->P i=false:=λi hi hn=>by
   rcases h4 with g |⟨g,g'⟩
   ·omega
   ·exact Ia (hint+o) i (by omega) hn g'
  clear h4
  generalize hint+l+1=lo at a1 a3 ⊢
  generalize hint+min o (n-hint)=hi at a1 a2 a4 ⊢
  clear h1 h2 h3 hr
 case' false=>
  rw[au (by decide)]
  refine ax (cN (bI (I:=λx c st'=>st=st'/\∃ l o,c=(none,l,o)/\l<o/\l<=hint/\P (hint-l)=false/\x+1<=o)
   (Q:=λc st'=>st=st'/\∃ l o,c=(none,l,o)/\l<o/\l<=hint/\P (hint-l)=false/\(hint+1<=o\/(o<=hint/\P (hint-o)=true))) ?_ ?_ ⟨rfl,0,1,rfl,by omega,by omega,hr,by omega⟩) ?_)
  ·rintro x c st' _ hx ⟨rfl,l,o,rfl,h1,h2,h3,h4⟩
   dsimp only
   by_cases g:o≥hint+1
   ·rw[aA g];exact aF ⟨rfl,l,o,rfl,h1,h2,h3,.inl g⟩
   ·rw[au g]
    refine ax (B (hint-o) (by omega) _ ?_)
    cases q:P (hint-o)with
    |true=>exact aF ⟨rfl,l,o,rfl,h1,h2,h3,.inr ⟨by omega,q⟩⟩
    |false=>exact aF ⟨rfl,o,2*o+1,rfl,by omega,by omega,q,by omega⟩
  ·rintro c st' ⟨rfl,l,o,rfl,h1,h2,h3,h4⟩
   exact⟨rfl,l,o,rfl,h1,h2,h3,.inl (by omega)⟩
  rintro c st' ⟨rfl,l,o,rfl,h1,h2,h3,h4⟩
  dsimp only
  have a1:hint+1-min o (hint+1)<=hint-l:=by omega
  have a2:hint-l<=n:=by omega
  have a3:∀ i,i<hint+1-min o (hint+1)->P i=true:=λi hi=>by
   rcases h4 with g |⟨g,g'⟩
   ·omega
   ·exact mono i (hint-o) (by omega) (by omega) g'
  have a4:∀ i,hint-l<=i->i<n->P i=false:=λi hi hn=>Ia (hint-l) i (by omega) hn h3
  clear h4
  generalize hint+1-min o (hint+1)=lo at a1 a3 ⊢
  generalize hint-l=hi at a1 a2 a4 ⊢
  clear h1 h2 h3 hr
 all_goals
  refine ax (cN (bI (I:=λx c st'=>st=st'/\∃ lo hi,c=(none,lo,hi)/\lo<=hi/\hi<=n/\(∀ i,i<lo->P i=true)/\(∀ i,hi<=i->i<n->P i=false)/\hi+x<=n+lo)
   (Q:=λc st'=>st=st'/\∃ lo hi,c=(none,lo,hi)/\Cut P n hi) ?_ ?_ ⟨rfl,lo,hi,rfl,a1,a2,a3,a4,by omega⟩) ?_)
  ·rintro x c st' _ hx ⟨rfl,lo,hi,rfl,h1,h2,h3,h4,h5⟩
   dsimp only
   by_cases g:lo≥hi
   ·rw[aA g];exact aF ⟨rfl,lo,hi,rfl,h2,λi hi=>h3 i (by omega),h4⟩
   ·rw[au g]
    refine ax (B (lo+(hi-lo)/2) (by omega) _ ?_)
    cases q:P (lo+(hi-lo)/2)with
    |true=>exact aF ⟨rfl,_,hi,rfl,by omega,h2,λi hi'=>mono i _ (by omega) (by omega) q,h4,by omega⟩
    |false=>exact aF ⟨rfl,lo,_,rfl,by omega,by omega,h3,λi h1' h2'=>Ia _ i h1' h2' q,by omega⟩
  ·rintro c st' ⟨rfl,lo,hi,rfl,h1,h2,h3,h4,h5⟩
   exact⟨rfl,lo,hi,rfl,h2,λi hi=>h3 i (by omega),h4⟩
  rintro c st' ⟨rfl,lo,hi,rfl,hc⟩
  exact aF (h hi hc)
end
noncomputable def Ek:Array Keyed->Array Keyed->StateT SortSt Sem (Array Keyed):=sortPriv% PySem.Builtin.mergeLo
noncomputable def El:Array Keyed->Array Keyed->StateT SortSt Sem (Array Keyed):=sortPriv% PySem.Builtin.mergeHi
variable {l:List Keyed}
section
variable {key:Keyed->Int}{a b out:List Keyed}{ia ib:Nat}
noncomputable def jW (key:Keyed->Int)(l:List Keyed):Prop:=l.Pairwise λx y=>key x<=key y
structure ML (key:Keyed->Int)(a b out:List Keyed)(ia ib:Nat):Prop where
 srt:jW key out
 le:∀ x∈out,∀ y,y∈a.drop ia\/y∈b.drop ib->key x<=key y
 perm:(out++(a.drop ia++b.drop ib)).Perm (a++b)
noncomputable def Mgd (key:Keyed->Int)(a b r:List Keyed):Prop:=jW key r/\r.Perm (a++b)
theorem ox (h:l[i]? = some x):l.drop i=x::l.drop (i+1):=by
 obtain⟨h1,h2⟩:=af.mp h
 rw[dc h1,h2]
theorem ly (h:jW key l)(i:Nat):jW key (l.drop i):=h.sublist (List.drop_sublist _ _)
theorem ML.sZ (m:ML key a b out ia ib)(sb:jW key b)(h:b[ib]? = some y)(g:∀ x∈a.drop ia,key y<=key x):ML key a b (out ++ [y]) ia (ib+1):=by
 have e:=ox h
 have s2:=ly sb ib
 rw[e]at s2
 have m2:=m.le
 have m3:=m.perm
 rw[e]at m2 m3
 refine⟨bj.mpr ⟨m.srt,cK _ _,λx hx z hz=>?_⟩,λx hx z hz=>?_,?_⟩
 ·rw[bp.mp hz];exact m2 x hx y (.inr az)
 ·rcases aJ.mp hx with hx |hx
  ·exact m2 x hx z (hz.imp_right λq=>ar _ q)
  ·rw[bp.mp hx]
   rcases hz with q |q
   ·exact g z q
   ·exact(di.mp s2).1 z q
 ·refine List.Perm.trans ?_ m3
  rw[aW]
  refine dG out ?_
  exact(cW (a:=y) (l₁:=a.drop ia) (l₂:=b.drop (ib+1))).symm
theorem ML.tj (m:ML key a b out ia ib)(sa:jW key a)(h:a[ia]? = some y)(g:∀ x∈b.drop ib,key y<=key x):ML key a b (out ++ [y]) (ia+1) ib:=by
 have e:=ox h
 have s2:=ly sa ia
 rw[e]at s2
 have m2:=m.le
 have m3:=m.perm
 rw[e]at m2 m3
 refine⟨bj.mpr ⟨m.srt,cK _ _,λx hx z hz=>?_⟩,λx hx z hz=>?_,?_⟩
 ·rw[bp.mp hz];exact m2 x hx y (.inl az)
 ·rcases aJ.mp hx with hx |hx
  ·exact m2 x hx z (hz.imp_left λq=>ar _ q)
  ·rw[bp.mp hx]
   rcases hz with q |q
   ·exact(di.mp s2).1 z q
   ·exact g z q
 ·rw[aW];exact m3
theorem ML.vF (sa:jW key a):∀ (k:Nat) {out:List Keyed}{ia:Nat},ML key a b out ia ib->ia+k<=a.length->(∀ i y,ia<=i->i<ia+k->a[i]? = some y->∀ x∈b.drop ib,key y<=key x)->ML key a b (out++(a.drop ia).take k) (ia+k) ib
 | 0,out,ia,m,_,_=>by rw[List.take_zero,bN];exact m
 |k+1,out,ia,m,hk,g=>by
  have h:a[ia]? = some a[ia]:=ao (by omega)
  have m2:=m.tj sa h (g ia _ (ai _) (by omega) h)
  have m3:=ML.vF sa k m2 (by omega) λi y h1 h2=>g i y (by omega) (by omega)
  rw[ox h,List.take_succ_cons]
  rw[aW]at m3
  rw[show ia+(k+1)=ia+1+k by omega]
  exact m3
theorem ML.vE (sb:jW key b):∀ (k:Nat) {out:List Keyed}{ib:Nat},ML key a b out ia ib->ib+k<=b.length->(∀ i y,ib<=i->i<ib+k->b[i]? = some y->∀ x∈a.drop ia,key y<=key x)->ML key a b (out++(b.drop ib).take k) ia (ib+k)
 | 0,out,ib,m,_,_=>by rw[List.take_zero,bN];exact m
 |k+1,out,ib,m,hk,g=>by
  have h:b[ib]? = some b[ib]:=ao (by omega)
  have m2:=m.sZ sb h (g ib _ (ai _) (by omega) h)
  have m3:=ML.vE sb k m2 (by omega) λi y h1 h2=>g i y (by omega) (by omega)
  rw[ox h,List.take_succ_cons]
  rw[aW]at m3
  rw[show ib+(k+1)=ib+1+k by omega]
  exact m3
theorem ML.done (m:ML key a b out ia ib)(sa:jW key a)(sb:jW key b)(h:∀ x∈a.drop ia,∀ y∈b.drop ib,key x<=key y):Mgd key a b (out++a.drop ia++b.drop ib):=by
 refine⟨?_,by rw[aW];exact m.perm⟩
 rw[aW]
 exact bj.mpr ⟨m.srt,bj.mpr ⟨ly sa _,ly sb _,h⟩,λx hx y hy=>m.le x hx y (aJ.mp hy)⟩
theorem ML.JF (m:ML key a b out ia ib)(sa:jW key a)(sb:jW key b)(h:∀ x∈a.drop ia,∀ y∈b.drop ib,key y<=key x):Mgd key a b (out++b.drop ib++a.drop ia):=by
 refine⟨?_,List.Perm.trans ?_ m.perm⟩
 ·rw[aW]
  exact bj.mpr ⟨m.srt,bj.mpr ⟨ly sb _,ly sa _,λx hx y hy=>h y hy x hx⟩,λx hx y hy=>m.le x hx y (aJ.mp hy).symm⟩
 ·rw[aW];exact dG out List.perm_append_comm
end
section
variable {prog:Program}{w:World}{A:Around}{E:Value->Shared->Prop}{s:Shared}{κ:SortKind}{key:Keyed->Int}{D:Keyed->Prop}
noncomputable def SmS (st st':SortSt):Prop:=kindOf st'=kindOf st/\arrOf st'=arrOf st/\pendingOf st'=pendingOf st/\failedOf st'=failedOf st
theorem SmS.gal {st st':SortSt}(h:SmS st st')(g:Nat):SmS st (SortSt.mk' (kindOf st') (arrOf st') (pendingOf st') g (failedOf st')):=h
theorem fO {α:Type}{c:Prop} [Decidable c] {x y:StateT SortSt Sem α}{Q:α->SortSt->Prop}{st:SortSt}(h1:c->wpS (model prog w) A E s x Q st)(h2:¬c->wpS (model prog w) A E s y Q st):wpS (model prog w) A E s (if c then x else y) Q st:=by
 by_cases h:c
 ·rw[aA h];exact h1 h
 ·rw[au h];exact h2 h
noncomputable def Bo:Nat->StateT SortSt Sem Unit:=sortPriv% PySem.Builtin.setMinGallop
theorem Ci {g:Nat}{Q:Unit->SortSt->Prop}{st:SortSt}(h:Q () (SortSt.mk' (kindOf st) (arrOf st) (pendingOf st) g (failedOf st))):wpS (model prog w) A E s (Bo g) Q st:=wpS_modify h
theorem md {g:Nat}{Q:Unit->SortSt->Prop}{st0 st:SortSt}(S:SmS st0 st)(h:∀ st',SmS st0 st'->Q () st'):wpS (model prog w) A E s (Bo g) Q st:=Ci (h _ (S.gal g))
theorem nQ {left:Bool}(h:∀ i j,i<=j->j<n->Ka key arr (base+i)<=Ka key arr (base+j)):∀ i j,i<=j->j<n->Bey key left k arr base j=true->Bey key left k arr base i=true:=by
 intro i j hij hj hb
 have:=h i j hij hj
 unfold Bey at hb ⊢
 cases left with
 |true=>
  rw[aA rfl]at hb ⊢
  have hb:Ka key arr (base+j)<key k:=by simpa using hb
  exact eF (by omega)
 |false=>
  rw[au (by decide)]at hb ⊢
  have hb:¬key k<Ka key arr (base+j):=by simpa using hb
  rw[bF (by omega)];rfl
theorem sI:(Bey key false k arr base i=true) = ¬(key k<Ka key arr (base+i)):=by
 unfold Bey;rw[au (by decide)];simp
theorem oE:(Bey key false k arr base i=false)=(key k<Ka key arr (base+i)):=by
 unfold Bey;rw[au (by decide)];simp
theorem vH:(Bey key true k arr base i=true)=(Ka key arr (base+i)<key k):=by
 unfold Bey;rw[aA rfl];simp
theorem qf:(Bey key true k arr base i=false) = ¬(Ka key arr (base+i)<key k):=by
 unfold Bey;rw[aA rfl];simp
theorem ud (h:jW key arr.toList)(hij:i<=j)(hj:j<arr.size):Ka key arr i<=Ka key arr j:=by
 by_cases e:i=j
 ·rw[e];exact ej _
 ·obtain⟨x,hx⟩:=gU (show i<arr.size by omega)
  obtain⟨y,hy⟩:=gU hj
  rw[iN hx,iN hy]
  have h2:=bD.mp h i j (by rw[ah];omega) (by rw[ah];omega) (by omega)
  rw[bA]at hx hy
  obtain⟨_,rfl⟩:=hx
  obtain⟨_,rfl⟩:=hy
  exact h2
theorem tH {T R:Prop}(h:(Unit->T)->R)(t:T):R:=h λ_=>t
theorem AK (O:Orc prog w A s κ key D){a b:Array Keyed}(hA:∀ (i:Nat) x,a[i]? = some x->D x)(hB:∀ (i:Nat) x,b[i]? = some x->D x)(sa:jW key a.toList)(sb:jW key b.toList)(na:1<=a.size)(nb:1<=b.size)
  (h0:∀ x∈a.toList,∀ y,b[0]? = some y->key y<=key x) (hl:∀ y∈b.toList,∀ x,a[a.size-1]? = some x->key y<=key x) {st:SortSt} (hk:kindOf st=κ) {Q:Array Keyed->SortSt->Prop} (h:∀ r st',Mgd key a.toList b.toList r.toList->SmS st st'->Q r st'):
  wpS (model prog w) A E s (Ek a b) Q st:=by
 obtain⟨y0,hy0⟩:=gU (show 0<b.size from nb)
 have la:a.toList.length=a.size:=ah
 have lb:b.toList.length=b.size:=ah
 have ga:∀ {i:Nat}{x:Keyed},a[i]? = some x->a.toList[i]? = some x:=λh=>by rw[aw];exact h
 have gb:∀ {i:Nat}{x:Keyed},b[i]? = some x->b.toList[i]? = some x:=λh=>by rw[aw];exact h
 have dA:∀ {i:Nat}{x:Keyed},a[i]? = some x->∀ z∈a.toList.drop i,key x<=key z:=λ{i x} hx z hz=>by
  have e:=ox (ga hx)
  have s2:=ly sa i
  rw[e]at s2 hz
  rcases aI.mp hz with rfl |q
  ·exact ej _
  ·exact(di.mp s2).1 z q
 have dB:∀ {i:Nat}{x:Keyed},b[i]? = some x->∀ z∈b.toList.drop i,key x<=key z:=λ{i x} hx z hz=>by
  have e:=ox (gb hx)
  have s2:=ly sb i
  rw[e]at s2 hz
  rcases aI.mp hz with rfl |q
  ·exact ej _
  ·exact(di.mp s2).1 z q
 have m0:ML key a.toList b.toList #[y0].toList 0 1:=by
  refine(show ML key a.toList b.toList ([] ++ [y0]) 0 (0+1) from ML.sZ ⟨List.Pairwise.nil,λx hx=>(by cases hx),List.Perm.refl _⟩ sb (gb hy0) λx hx=>h0 x (by simpa using hx) y0 hy0)
 have fB:∀ {out:Array Keyed}{ia ib:Nat},ML key a.toList b.toList out.toList ia ib->ib=b.size->Mgd key a.toList b.toList (out++a.extract ia a.size++b.extract ib b.size).toList:=λ{out ia ib} m e=>by
  have eb:b.toList.drop ib = []:=List.drop_eq_nil_of_le (by omega)
  have:=m.done sa sb (λx _ y hy=>by rw[eb]at hy;cases hy)
  rw[eb]at this
  subst e
  simpa [bz,aO]using this
 have fA:∀ {out:Array Keyed}{ia ib:Nat},ML key a.toList b.toList out.toList ia ib->ia=a.size->Mgd key a.toList b.toList (out++a.extract ia a.size++b.extract ib b.size).toList:=λ{out ia ib} m e=>by
  have ea:a.toList.drop ia = []:=List.drop_eq_nil_of_le (by omega)
  have:=m.done sa sb (λx hx=>by rw[ea]at hx;cases hx)
  rw[ea]at this
  subst e
  simpa [bz,aO]using this
 have fL:∀ {out:Array Keyed}{ia ib:Nat},ML key a.toList b.toList out.toList ia ib->ia+1=a.size->Mgd key a.toList b.toList (out++b.extract ib b.size++a.extract ia a.size).toList:=λ{out ia ib} m e=>by
  obtain⟨z,hz⟩:=gU (show ia<a.size by omega)
  have ea:a.toList.drop ia = [z]:=by rw[ox (ga hz),List.drop_eq_nil_of_le (by omega)]
  have:=m.JF sa sb (λx hx y hy=>by
   rw[ea]at hx
   rw[bp.mp hx]
   exact hl y (cU hy) z (by rw[show a.size-1=ia by omega];exact hz))
  simpa [bz,aO]using this
 refine ax (kO (eB ⟨rfl,?_⟩))
 refine ax (gP hy0 ?_)
 dsimp only
 refine fO (λe=>?_) (λe=>?_)
 ·have e1:1=b.size:=by simpa using e
  exact aF (h _ _ (fB m0 e1) ⟨rfl,rfl,rfl,rfl⟩)
 have e1:¬1=b.size:=by simpa using e
 refine fO (λe=>?_) (λe=>?_)
 ·have e2:0+1=a.size:=by simpa using e
  exact aF (h _ _ (fL m0 e2) ⟨rfl,rfl,rfl,rfl⟩)
 have e2:¬0+1=a.size:=by simpa using e
 refine ax (wpS_get ?_)
 refine ax (cN (bI (I:=λx c st'=>SmS st st'/\∃ out ia ib g,c=(none,out,ia,ib,g)/\ML key a.toList b.toList out.toList ia ib/\ia+1<a.size/\ib<b.size/\x+1<=ia+ib)
  (Q:=λc st'=>SmS st st'/\∃ r out ia ib g,c=(some r,out,ia,ib,g)/\Mgd key a.toList b.toList r.toList) ?_ ?_ ⟨⟨rfl,rfl,rfl,rfl⟩,_,0,1,_,rfl,m0,by omega,by omega,by omega⟩) ?_)
 ·rintro x c st1 _ hx ⟨S1,out,ia,ib,g,rfl,m,i1,i2,i3⟩
  dsimp only
  refine ax (cN (bI (I:=λy c st'=>SmS st st'/\∃ out ia' ib' ac bc,c=(none,out,ia',ib',ac,bc)/\ML key a.toList b.toList out.toList ia' ib'/\ia'+1<a.size/\ib'<b.size/\ia+ib+y=ia'+ib')
   (Q:=λc st'=>SmS st st'/\∃ o out ia' ib' ac bc,c=(o,out,ia',ib',ac,bc)/\((∃ r,o=some r/\Mgd key a.toList b.toList r.toList)\/(o=none/\ML key a.toList b.toList out.toList ia' ib'/\ia'+1<a.size/\ib'<b.size/\ia+ib+1<=ia'+ib'))) ?_ ?_ ⟨S1,_,_,_,_,_,rfl,m,i1,i2,rfl⟩) ?_)
  ·clear m i1 i2 S1
   rintro y c st2 _ hy ⟨S2,out,ia',ib',ac,bc,rfl,m,i1,i2,i3⟩
   dsimp only
   obtain⟨u,hu⟩:=gU i2
   obtain⟨v,hv⟩:=gU (show ia'<a.size by omega)
   refine ax (gP hu (ax (gP hv (ax (uM O (hB _ _ hu) (hA _ _ hv) (S2.1.trans hk) ?_)))))
   dsimp only
   refine fO (λe=>?_) (λe=>?_)
   ·have q:key u<key v:=by simpa using e
    refine ax (gP hu ?_)
    have m2:ML key a.toList b.toList (out.push u).toList ia' (ib'+1):=by
     rw[b8]
     exact m.sZ sb (gb hu) λz hz=>by have:=dA hv z hz;omega
    refine fO (λe=>?_) (λe=>?_)
    ·exact aF ⟨S2,_,_,_,_,_,_,rfl,.inl ⟨_,rfl,fB m2 (by simpa using e)⟩⟩
    ·have e:ib'+1≠b.size:=by simpa using e
     refine fO (λ_=>?_) (λ_=>?_)
     ·exact aF ⟨S2,_,_,_,_,_,_,rfl,.inr ⟨rfl,m2,i1,by omega,by omega⟩⟩
     ·exact aF ⟨S2,_,_,_,_,_,rfl,m2,i1,by omega,by omega⟩
   ·have q:¬key u<key v:=by simpa using e
    refine ax (gP hv ?_)
    have m2:ML key a.toList b.toList (out.push v).toList (ia'+1) ib':=by
     rw[b8]
     exact m.tj sa (ga hv) λz hz=>by have:=dB hu z hz;omega
    refine fO (λe=>?_) (λe=>?_)
    ·exact aF ⟨S2,_,_,_,_,_,_,rfl,.inl ⟨_,rfl,fL m2 (by simpa using e)⟩⟩
    ·have e:ia'+1+1≠a.size:=by simpa using e
     refine fO (λ_=>?_) (λ_=>?_)
     ·exact aF ⟨S2,_,_,_,_,_,_,rfl,.inr ⟨rfl,m2,by omega,i2,by omega⟩⟩
     ·exact aF ⟨S2,_,_,_,_,_,rfl,m2,by omega,i2,by omega⟩
  ·rintro c st2 ⟨S2,out,ia',ib',ac,bc,rfl,m,i1,i2,i3⟩
   omega
  clear m i1 i2 S1
  rintro c st2 ⟨S2,o,out,ia',ib',ac,bc,rfl,z⟩
  dsimp only
  rcases z with⟨r,rfl,z⟩|⟨rfl,m,i1,i2,i4⟩
  ·exact aF ⟨S2,_,_,_,_,_,rfl,z⟩
  dsimp only
  refine ax (kO (eB ⟨rfl,?_⟩))
  refine ax (cN (bI (I:=λy c st'=>SmS st st'/\∃ out ja jb g ac bc,c=(none,out,ja,jb,g,ac,bc)/\ML key a.toList b.toList out.toList ja jb/\ja+1<a.size/\jb<b.size/\ia'+ib'<=ja+jb)
   (Q:=λc st'=>SmS st st'/\∃ o out ja jb g ac bc,c=(o,out,ja,jb,g,ac,bc)/\((∃ r,o=some r/\Mgd key a.toList b.toList r.toList)\/(o=none/\ML key a.toList b.toList out.toList ja jb/\ja+1<a.size/\jb<b.size/\ia'+ib'<=ja+jb))) ?_ ?_ ⟨S2,_,_,_,_,_,_,rfl,m,i1,i2,ai _⟩) ?_)
  ·clear m i1 i2 S2
   rintro y c st3 _ hy ⟨S3,out,ja,jb,g,ac,bc,rfl,m,i1,i2,i5⟩
   dsimp only
   obtain⟨u,hu⟩:=gU i2
   apply tH
   case h=>
    intro J
    refine fO (λ_=>?_) (λ_=>?_)
    ·generalize g-1=g'
     refine ax (md S3 λst4 S3=>?_)
     revert g' st4
     exact J ()
    ·exact ax (md S3 λst4 S3=>J () g st4 S3)
   clear S3;intro g' st4 S3
   refine ax (gP hu ?_)
   refine ax (mh O (base:=ja) (n:=a.size-ja) (hint:=0) (hB _ _ hu) hA (by omega) (by omega) (nQ λi j h1 h2=>ud sa (by omega) (by omega)) (S3.1.trans hk) λk C=>?_)
   obtain⟨C0,C1,C2⟩:=C
   dsimp only
   apply tH
   case h=>
    intro J
    apply fO
    case h1=>
     intro g1
     have m2:ML key a.toList b.toList (out++a.extract ja (ja+k)).toList (ja+k) jb:=by
      have:=m.vF sa k (by omega) λi y' h1 h2 hy' x hx=>by
       have:=C1 (i-ja) (by omega)
       have e:=iN (key:=key) (show a[ja+(i-ja)]? = some y' by rw[show ja+(i-ja)=i by omega,<-aw];exact hy')
       rw[sI,e]at this
       have:=dB hu x hx
       omega
      simpa [bz,aO]using this
     refine fO (λg2=>aF ⟨S3,_,_,_,_,_,_,_,rfl,.inl ⟨_,rfl,fL m2 (by simpa using g2)⟩⟩) (λg2=>?_)
     have g2:ja+k+1≠a.size:=by simpa using g2
     refine fO (λg3=>aF ⟨S3,_,_,_,_,_,_,_,rfl,.inl ⟨_,rfl,fA m2 (by simpa using g3)⟩⟩) (λg3=>?_)
     have g3:ja+k≠a.size:=by simpa using g3
     have j1:ja+k+1<a.size:=by omega
     obtain⟨v,hv⟩:=gU (show ja+k<a.size by omega)
     have uv:key u<key v:=by
      have:=C2 k (ai _) (by omega)
      rw[oE,iN (key:=key) hv]at this
      exact this
     have j2:ia'+ib'<=ja+k+jb:=by omega
     generalize out++a.extract ja (ja+k)=uL at m2 ⊢
     generalize ja+k=ja' at m2 j1 hv j2 ⊢
     revert uL ja' v
     exact J ()
    case h2=>
     intro g1
     have m2:ML key a.toList b.toList out.toList ja jb:=m
     have j1:ja+1<a.size:=i1
     obtain⟨v,hv⟩:=gU (show ja<a.size by omega)
     have uv:key u<key v:=by
      have:=C2 0 (by omega) (by omega)
      rw[oE,cC,iN (key:=key) hv]at this
      exact this
     have j2:=i5
     exact J () v uv _ _ m2 j1 hv j2
   intro v uv uL ja' m2 j1 hv j2
   refine ax (gP hu ?_)
   have m3:ML key a.toList b.toList (uL.push u).toList ja' (jb+1):=by
    rw[b8]
    exact m2.sZ sb (gb hu) λz hz=>by have:=dA hv z hz;omega
   refine fO (λg4=>aF ⟨S3,_,_,_,_,_,_,_,rfl,.inl ⟨_,rfl,fB m3 (by simpa using g4)⟩⟩) (λg4=>?_)
   have g4:jb+1≠b.size:=by simpa using g4
   refine ax (gP hv ?_)
   refine ax (mh O (base:=jb+1) (n:=b.size-(jb+1)) (hint:=0) (hA _ _ hv) hB (by omega) (by omega) (nQ λi j h1 h2=>ud sb (by omega) (by omega)) (S3.1.trans hk) λk2 C=>?_)
   obtain⟨B0,B1,B2⟩:=C
   dsimp only
   apply tH
   case h=>
    intro J
    apply fO
    case h1=>
     intro g5
     have m4:ML key a.toList b.toList (uL.push u++b.extract (jb+1) (jb+1+k2)).toList ja' (jb+1+k2):=by
      have:=m3.vE sb k2 (by omega) λi y' h1 h2 hy' x hx=>by
       have:=B1 (i-(jb+1)) (by omega)
       have e:=iN (key:=key) (show b[jb+1+(i-(jb+1))]? = some y' by rw[show jb+1+(i-(jb+1))=i by omega,<-aw];exact hy')
       rw[vH,e]at this
       have:=dA hv x hx
       omega
      simpa [bz,aO]using this
     refine fO (λg6=>aF ⟨S3,_,_,_,_,_,_,_,rfl,.inl ⟨_,rfl,fB m4 (by simpa using g6)⟩⟩) (λg6=>?_)
     have g6:jb+1+k2≠b.size:=by simpa using g6
     have j3:jb+1+k2<b.size:=by omega
     have vb:∀ z∈b.toList.drop (jb+1+k2),key v<=key z:=λz hz=>by
      obtain⟨t,ht⟩:=gU j3
      have:=B2 k2 (ai _) (by omega)
      rw[qf,iN (key:=key) ht]at this
      have:=dB ht z hz
      omega
     have j4:ia'+ib'<=ja'+(jb+1+k2):=by omega
     generalize uL.push u++b.extract (jb+1) (jb+1+k2)=AA at m4 ⊢
     generalize jb+1+k2=jb' at m4 j3 vb j4 ⊢
     revert AA jb'
     exact J ()
    case h2=>
     intro g5
     have m4:=m3
     have j3:jb+1<b.size:=by omega
     have vb:∀ z∈b.toList.drop (jb+1),key v<=key z:=λz hz=>by
      obtain⟨t,ht⟩:=gU j3
      have:=B2 0 (by omega) (by omega)
      rw[qf,cC,iN (key:=key) ht]at this
      have:=dB ht z hz
      omega
     have j4:ia'+ib'<=ja'+(jb+1):=by omega
     exact J () _ _ m4 j3 vb j4
   intro AA jb' m4 j3 vb j4
   refine ax (gP hv ?_)
   have m5:ML key a.toList b.toList (AA.push v).toList (ja'+1) jb':=by
    rw[b8]
    exact m4.tj sa (ga hv) vb
   refine fO (λg7=>aF ⟨S3,_,_,_,_,_,_,_,rfl,.inl ⟨_,rfl,fL m5 (by simpa using g7)⟩⟩) (λg7=>?_)
   have g7:ja'+1+1≠a.size:=by simpa using g7
   refine fO (λ_=>?_) (λ_=>?_)
   ·exact aF ⟨S3,_,_,_,_,_,_,_,rfl,.inr ⟨rfl,m5,by omega,j3,by omega⟩⟩
   ·exact aF ⟨S3,_,_,_,_,_,_,rfl,m5,by omega,j3,by omega⟩
  ·rintro c st3 ⟨S3,out,ja,jb,g,ac,bc,rfl,m,i1,i2,i5⟩
   exact⟨S3,_,_,_,_,_,_,_,rfl,.inr ⟨rfl,m,i1,i2,i5⟩⟩
  rintro c st3 ⟨S3,o,out,ja,jb,g,ac,bc,rfl,z⟩
  rcases z with⟨r,rfl,z⟩|⟨rfl,m,i1,i2,i5⟩
  ·exact aF ⟨S3,_,_,_,_,_,rfl,z⟩
  ·exact ax (md S3 λst4 S3=>aF ⟨S3,_,_,_,_,rfl,m,i1,i2,(by show x+1+1<=ja+jb;omega)⟩)
 ·rintro c st' ⟨S1,out,ia,ib,g,rfl,m,i1,i2,i3⟩
  omega
 rintro c st' ⟨S1,r,out,ia,ib,g,rfl,z⟩
 exact aF (h r st' z S1)
end
section
variable {key:Keyed->Int}{a b out:List Keyed}{na nb:Nat}
structure MH (key:Keyed->Int)(a b out:List Keyed)(na nb:Nat):Prop where
 srt:jW key out.reverse
 le:∀ x∈out,∀ y,y∈a.take na\/y∈b.take nb->key y<=key x
 perm:(a.take na++b.take nb++out.reverse).Perm (a++b)
theorem pW (h1:1<=i)(h:l[i-1]? = some x):l.take i=l.take (i-1) ++ [x]:=by
 obtain⟨n,rfl⟩:∃ n,i=n+1:=⟨i-1,by omega⟩
 rw[Nat.add_sub_cancel]at h ⊢
 rw[bR,h];rfl
theorem o6 (h:jW key l)(i:Nat):jW key (l.take i):=h.sublist (eO _ _)
theorem qL (h:jW key l)(h1:1<=i)(hx:l[i-1]? = some x):∀ z∈l.take i,key z<=key x:=λz hz=>by
 have s2:=o6 h i
 rw[pW h1 hx]at s2 hz
 rcases aJ.mp hz with q |q
 ·exact(bj.mp s2).2.2 z q x (bp.mpr rfl)
 ·rw[bp.mp q];exact ej _
theorem MH.tj (m:MH key a b out na nb)(sa:jW key a)(h1:1<=na)(h:a[na-1]? = some y)(g:∀ x∈b.take nb,key x<=key y):MH key a b (out ++ [y]) (na-1) nb:=by
 have e:=pW h1 h
 have m2:=m.le
 have m3:=m.perm
 have sl:=qL sa h1 h
 rw[e]at m2 m3 sl
 refine⟨?_,λx hx z hz=>?_,?_⟩
 ·rw[cI]
  refine bj.mpr ⟨cK _ _,m.srt,λx hx z hz=>?_⟩
  rw[show x=y by simpa using hx]
  exact m2 z (cX.mp hz) y (.inl (by simp))
 ·rcases aJ.mp hx with hx |hx
  ·exact m2 x hx z (hz.imp_left λq=>bL _ q)
  ·rw[bp.mp hx]
   rcases hz with q |q
   ·exact sl z (bL _ q)
   ·exact g z q
 ·refine List.Perm.trans ?_ m3
  rw[cI]
  show(a.take (na-1)++b.take nb++([y]++out.reverse)).Perm _
  rw[<-aW]
  refine List.Perm.append_right _ ?_
  rw[aW,aW]
  exact dG _ List.perm_append_comm
theorem MH.sZ (m:MH key a b out na nb)(sb:jW key b)(h1:1<=nb)(h:b[nb-1]? = some y)(g:∀ x∈a.take na,key x<=key y):MH key a b (out ++ [y]) na (nb-1):=by
 have e:=pW h1 h
 have m2:=m.le
 have m3:=m.perm
 have sl:=qL sb h1 h
 rw[e]at m2 m3 sl
 refine⟨?_,λx hx z hz=>?_,?_⟩
 ·rw[cI]
  refine bj.mpr ⟨cK _ _,m.srt,λx hx z hz=>?_⟩
  rw[show x=y by simpa using hx]
  exact m2 z (cX.mp hz) y (.inr (by simp))
 ·rcases aJ.mp hx with hx |hx
  ·exact m2 x hx z (hz.imp_right λq=>bL _ q)
  ·rw[bp.mp hx]
   rcases hz with q |q
   ·exact g z q
   ·exact sl z (bL _ q)
 ·refine List.Perm.trans ?_ m3
  rw[cI]
  show(a.take na++b.take (nb-1)++([y]++out.reverse)).Perm _
  rw[<-aW,aW (a.take na)]
theorem MH.vF (sa:jW key a):∀ (k p:Nat) {out:List Keyed}{na:Nat},na=p+k->MH key a b out na nb->na<=a.length->(∀ i y,p<=i->i<na->a[i]? = some y->∀ x∈b.take nb,key x<=key y)->MH key a b (out++((a.drop p).take (na-p)).reverse) p nb
 | 0,p,out,na,e,m,_,_=>by subst e;simpa using m
 |k+1,p,out,na,e,m,hk,g=>by
  have h:a[na-1]? = some a[na-1]:=ao (by omega)
  have m2:=m.tj sa (by omega) h (g (na-1) _ (by omega) (by omega) h)
  have m3:=MH.vF sa k p (by omega) m2 (by omega) λi y h1 h2=>g i y h1 (by omega)
  have e2:(a.drop p).take (na-p)=(a.drop p).take (na-1-p) ++ [a[na-1]]:=by
   rw[pW (i:=na-p) (by omega) (x:=a[na-1]) (by rw[bE,show p+(na-p-1)=na-1 by omega];exact h),show na-p-1=na-1-p by omega]
  rw[e2,cI]
  rw[aW]at m3
  exact m3
theorem MH.vE (sb:jW key b):∀ (k p:Nat) {out:List Keyed}{nb:Nat},nb=p+k->MH key a b out na nb->nb<=b.length->(∀ i y,p<=i->i<nb->b[i]? = some y->∀ x∈a.take na,key x<=key y)->MH key a b (out++((b.drop p).take (nb-p)).reverse) na p
 | 0,p,out,nb,e,m,_,_=>by subst e;simpa using m
 |k+1,p,out,nb,e,m,hk,g=>by
  have h:b[nb-1]? = some b[nb-1]:=ao (by omega)
  have m2:=m.sZ sb (by omega) h (g (nb-1) _ (by omega) (by omega) h)
  have m3:=MH.vE sb k p (by omega) m2 (by omega) λi y h1 h2=>g i y h1 (by omega)
  have e2:(b.drop p).take (nb-p)=(b.drop p).take (nb-1-p) ++ [b[nb-1]]:=by
   rw[pW (i:=nb-p) (by omega) (x:=b[nb-1]) (by rw[bE,show p+(nb-p-1)=nb-1 by omega];exact h),show nb-p-1=nb-1-p by omega]
  rw[e2,cI]
  rw[aW]at m3
  exact m3
theorem MH.done (m:MH key a b out na nb)(sa:jW key a)(sb:jW key b)(h:∀ x∈a.take na,∀ y∈b.take nb,key x<=key y):Mgd key a b (a.take na++b.take nb++out.reverse):=
 ⟨bj.mpr ⟨bj.mpr ⟨o6 sa _,o6 sb _,h⟩,m.srt,λx hx y hy=>m.le y (cX.mp hy) x (aJ.mp hx)⟩,m.perm⟩
theorem MH.doneF (m:MH key a b out na nb)(sa:jW key a)(sb:jW key b)(h:∀ x∈a.take na,∀ y∈b.take nb,key y<=key x):Mgd key a b (b.take nb++a.take na++out.reverse):=
 ⟨bj.mpr ⟨bj.mpr ⟨o6 sb _,o6 sa _,λx hx y hy=>h y hy x hx⟩,m.srt,λx hx y hy=>m.le y (cX.mp hy) x (aJ.mp hx).symm⟩,(List.Perm.append_right _ List.perm_append_comm).trans m.perm⟩
end
section
variable {prog:Program}{w:World}{A:Around}{E:Value->Shared->Prop}{s:Shared}{κ:SortKind}{key:Keyed->Int}{D:Keyed->Prop}
theorem AL (O:Orc prog w A s κ key D){a b:Array Keyed}(hA:∀ (i:Nat) x,a[i]? = some x->D x)(hB:∀ (i:Nat) x,b[i]? = some x->D x)(sa:jW key a.toList)(sb:jW key b.toList)(za:1<=a.size)(zb:1<=b.size)
  (h0:∀ x∈a.toList,∀ y,b[0]? = some y->key y<=key x) (hl:∀ y∈b.toList,∀ x,a[a.size-1]? = some x->key y<=key x) {st:SortSt} (hk:PyProof.Rows.kindOf st=κ) {Q:Array Keyed->SortSt->Prop} (h:∀ r st',Mgd key a.toList b.toList r.toList->SmS st st'->Q r st'):
  wpS (model prog w) A E s (El a b) Q st:=by
 obtain⟨y0,hy0⟩:=gU (show a.size-1<a.size by omega)
 have la:a.toList.length=a.size:=ah
 have lb:b.toList.length=b.size:=ah
 have ga:∀ {i:Nat}{x:Keyed},a[i]? = some x->a.toList[i]? = some x:=λh=>by rw[aw];exact h
 have gb:∀ {i:Nat}{x:Keyed},b[i]? = some x->b.toList[i]? = some x:=λh=>by rw[aw];exact h
 have dA:∀ {i:Nat}{x:Keyed},1<=i->a[i-1]? = some x->∀ z∈a.toList.take i,key z<=key x:=λ{i x} h1 hx=>qL sa h1 (ga hx)
 have dB:∀ {i:Nat}{x:Keyed},1<=i->b[i-1]? = some x->∀ z∈b.toList.take i,key z<=key x:=λ{i x} h1 hx=>qL sb h1 (gb hx)
 have m0:MH key a.toList b.toList #[y0].toList (a.size-1) b.size:=by
  refine(show MH key a.toList b.toList ([] ++ [y0]) (a.size-1) b.size from MH.tj (out:=[]) ⟨List.Pairwise.nil,λx hx=>(by cases hx),?_⟩ sa za (ga hy0) λx hx=>hl x (eh hx) y0 hy0)
  rw[aO (by omega),aO (by omega)]
  simp
 have fA:∀ {out:Array Keyed}{na nb:Nat},MH key a.toList b.toList out.toList na nb->na=0->Mgd key a.toList b.toList (a.extract 0 na++b.extract 0 nb++out.reverse).toList:=λ{out na nb} m e=>by
  subst e
  have:=m.done sa sb (λx hx=>by simp at hx)
  simpa [bz]using this
 have fB:∀ {out:Array Keyed}{na nb:Nat},MH key a.toList b.toList out.toList na nb->nb=0->Mgd key a.toList b.toList (a.extract 0 na++b.extract 0 nb++out.reverse).toList:=λ{out na nb} m e=>by
  subst e
  have:=m.done sa sb (λx _ y hy=>by simp at hy)
  simpa [bz]using this
 have fF:∀ {out:Array Keyed}{na nb:Nat},MH key a.toList b.toList out.toList na nb->nb=1->Mgd key a.toList b.toList (b.extract 0 nb++a.extract 0 na++out.reverse).toList:=λ{out na nb} m e=>by
  subst e
  obtain⟨z,hz⟩:=gU (show 0<b.size by omega)
  have:=m.doneF sa sb (λx hx y hy=>by
   have e1:b.toList.take 1 = [z]:=by rw[pW (ai 1) (gb hz)];simp
   rw[e1]at hy
   rw[bp.mp hy]
   exact h0 x (eh hx) z hz)
  simpa [bz]using this
 refine ax (kO (eB ⟨rfl,?_⟩))
 refine ax (gP hy0 ?_)
 dsimp only
 refine fO (λe1=>aF (h _ _ (fA m0 (by simpa using e1)) ⟨rfl,rfl,rfl,rfl⟩)) (λe1=>?_)
 have e1:a.size-1≠0:=by simpa using e1
 refine fO (λe2=>aF (h _ _ (fF m0 (by simpa using e2)) ⟨rfl,rfl,rfl,rfl⟩)) (λe2=>?_)
 have e2:b.size≠1:=by simpa using e2
 refine ax (wpS_get ?_)
 refine ax (cN (bI (I:=λx c st'=>SmS st st'/\∃ na nb out g,c=(none,na,nb,out,g)/\MH key a.toList b.toList out.toList na nb/\1<=na/\2<=nb/\na<=a.size/\nb<=b.size/\na+nb+(x+1)<=a.size+b.size)
  (Q:=λc st'=>SmS st st'/\∃ r na nb out g,c=(some r,na,nb,out,g)/\Mgd key a.toList b.toList r.toList) ?_ ?_ ⟨⟨rfl,rfl,rfl,rfl⟩,_,_,_,_,rfl,m0,by omega,by omega,by omega,by omega,by omega⟩) ?_)
 ·rintro x c st1 _ hx ⟨S1,na,nb,out,g,rfl,m,i1,i2,z1,z2,i3⟩
  dsimp only
  refine ax (cN (bI (I:=λy c st'=>SmS st st'/\∃ na' nb' out ac bc,c=(none,na',nb',out,ac,bc)/\MH key a.toList b.toList out.toList na' nb'/\1<=na'/\2<=nb'/\na'<=a.size/\nb'<=b.size/\na'+nb'+y=na+nb)
   (Q:=λc st'=>SmS st st'/\∃ o na' nb' out ac bc,c=(o,na',nb',out,ac,bc)/\((∃ r,o=some r/\Mgd key a.toList b.toList r.toList)\/(o=none/\MH key a.toList b.toList out.toList na' nb'/\1<=na'/\2<=nb'/\na'<=a.size/\nb'<=b.size/\na'+nb'+1<=na+nb))) ?_ ?_ ⟨S1,_,_,_,_,_,rfl,m,i1,i2,z1,z2,rfl⟩) ?_)
  ·clear m i1 i2 S1
   rintro y c st2 _ hy ⟨S2,na',nb',out,ac,bc,rfl,m,i1,i2,y1,y2,i4⟩
   dsimp only
   obtain⟨u,hu⟩:=gU (show nb'-1<b.size by omega)
   obtain⟨v,hv⟩:=gU (show na'-1<a.size by omega)
   refine ax (gP hu (ax (gP hv (ax (uM O (hB _ _ hu) (hA _ _ hv) (S2.1.trans hk) ?_)))))
   dsimp only
   by_cases q:key u<key v
   ·rw[aA (by simpa using q)]
    refine ax (gP hv ?_)
    have m2:MH key a.toList b.toList (out.push v).toList (na'-1) nb':=by
     rw[b8]
     exact m.tj sa i1 (ga hv) λz hz=>by have:=dB (by omega) hu z hz;omega
    refine fO (λe=>?_) (λe=>?_)
    ·exact aF ⟨S2,_,_,_,_,_,_,rfl,.inl ⟨_,rfl,fA m2 (by simpa using e)⟩⟩
    ·have e:na'-1≠0:=by simpa using e
     refine fO (λ_=>?_) (λ_=>?_)
     ·exact aF ⟨S2,_,_,_,_,_,_,rfl,.inr ⟨rfl,m2,by omega,i2,by omega,y2,by omega⟩⟩
     ·exact aF ⟨S2,_,_,_,_,_,rfl,m2,by omega,i2,by omega,y2,by omega⟩
   ·rw[au (by simpa using q)]
    refine ax (gP hu ?_)
    have m2:MH key a.toList b.toList (out.push u).toList na' (nb'-1):=by
     rw[b8]
     exact m.sZ sb (by omega) (gb hu) λz hz=>by have:=dA i1 hv z hz;omega
    refine fO (λe=>?_) (λe=>?_)
    ·exact aF ⟨S2,_,_,_,_,_,_,rfl,.inl ⟨_,rfl,fF m2 (by simpa using e)⟩⟩
    ·have e:nb'-1≠1:=by simpa using e
     refine fO (λ_=>?_) (λ_=>?_)
     ·exact aF ⟨S2,_,_,_,_,_,_,rfl,.inr ⟨rfl,m2,i1,by omega,y1,by omega,by omega⟩⟩
     ·exact aF ⟨S2,_,_,_,_,_,rfl,m2,i1,by omega,y1,by omega,by omega⟩
  ·rintro c st2 ⟨S2,na',nb',out,ac,bc,rfl,m,i1,i2,y1,y2,i4⟩
   omega
  clear m i1 i2 S1
  rintro c st2 ⟨S2,o,na',nb',out,ac,bc,rfl,z⟩
  dsimp only
  rcases z with⟨r,rfl,z⟩|⟨rfl,m,i1,i2,y1,y2,i4⟩
  ·exact aF ⟨S2,_,_,_,_,_,rfl,z⟩
  dsimp only
  refine ax (kO (eB ⟨rfl,?_⟩))
  refine ax (cN (bI (I:=λy c st'=>SmS st st'/\∃ ja jb out g ac bc,c=(none,ja,jb,out,g,ac,bc)/\MH key a.toList b.toList out.toList ja jb/\1<=ja/\2<=jb/\ja<=a.size/\jb<=b.size/\ja+jb<=na'+nb')
   (Q:=λc st'=>SmS st st'/\∃ o ja jb out g ac bc,c=(o,ja,jb,out,g,ac,bc)/\((∃ r,o=some r/\Mgd key a.toList b.toList r.toList)\/(o=none/\MH key a.toList b.toList out.toList ja jb/\1<=ja/\2<=jb/\ja<=a.size/\jb<=b.size/\ja+jb<=na'+nb'))) ?_ ?_ ⟨S2,_,_,_,_,_,_,rfl,m,i1,i2,y1,y2,ai _⟩) ?_)
  ·clear m i1 i2 S2 z1 z2
   rintro y c st3 _ hy ⟨S3,ja,jb,out,g,ac,bc,rfl,m,i1,i2,z1,z2,i5⟩
   dsimp only
   obtain⟨u,hu⟩:=gU (show jb-1<b.size by omega)
   apply tH
   case h=>
    intro J
    refine fO (λ_=>?_) (λ_=>?_)
    ·generalize g-1=g'
     refine ax (md S3 λst4 S3=>?_)
     revert g' st4
     exact J ()
    ·exact ax (md S3 λst4 S3=>J () g st4 S3)
   clear S3;intro g' st4 S3
   refine ax (gP hu ?_)
   refine ax (mh O (base:=0) (n:=ja) (hint:=ja-1) (hB _ _ hu) hA (by omega) (by omega) (nQ λi j h1 h2=>ud sa (by omega) (by omega)) (S3.1.trans hk) λk C=>?_)
   obtain⟨C0,C1,C2⟩:=C
   dsimp only
   have ka:∀ z∈a.toList.take k,key z<=key u:=λz hz=>by
    obtain⟨i,hi,e⟩:=bK.mp hz
    rw[aN]at hi
    have:=C1 i (by omega)
    rw[dz]at e
    rw[sI,cB,iN (key:=key) (show a[i]? = some z by rw[<-aw,ao (by omega),e])]at this
    omega
   apply tH
   case h=>
    intro J
    apply fO
    case h1=>
     intro g1
     have m2:MH key a.toList b.toList (out++(a.extract k ja).reverse).toList k jb:=by
      have:=m.vF sa (ja-k) k (by omega) (by omega) λi y' h1 h2 hy' x hx=>by
       have:=C2 i h1 h2
       rw[oE,cB,iN (key:=key) (show a[i]? = some y' by rw[<-aw];exact hy')]at this
       have:=dB (by omega) hu x hx
       omega
      simpa [bz,aO]using this
     refine fO (λg2=>aF ⟨S3,_,_,_,_,_,_,_,rfl,.inl ⟨_,rfl,fA m2 (by simpa using g2)⟩⟩) (λg2=>?_)
     have g2:k≠0:=by simpa using g2
     have j1:1<=k:=by omega
     have j0:k<=a.size:=by omega
     have j2:k+jb<=na'+nb':=by omega
     have ka1:=ka
     generalize ja-k=kk
     generalize out++(a.extract k ja).reverse=uL at m2 ⊢
     generalize k=ja' at m2 j1 j0 j2 ka1 ⊢
     revert kk uL ja'
     exact J ()
    case h2=>
     intro g1
     have ek:k=ja:=by omega
     have m2:MH key a.toList b.toList out.toList ja jb:=m
     have j1:1<=ja:=i1
     have j0:ja<=a.size:=by omega
     have j2:=i5
     have ka1:∀ z∈a.toList.take ja,key z<=key u:=by rw[<-ek];exact ka
     exact J () _ _ _ m2 j1 j0 j2 ka1
   intro kk uL ja' m2 j1 j0 j2 ka
   obtain⟨v,hv⟩:=gU (show ja'-1<a.size by omega)
   refine ax (gP hu ?_)
   have m3:MH key a.toList b.toList (uL.push u).toList ja' (jb-1):=by
    rw[b8]
    exact m2.sZ sb (by omega) (gb hu) ka
   refine fO (λg4=>aF ⟨S3,_,_,_,_,_,_,_,rfl,.inl ⟨_,rfl,fF m3 (by simpa using g4)⟩⟩) (λg4=>?_)
   have g4:jb-1≠1:=by simpa using g4
   refine ax (gP hv ?_)
   refine ax (mh O (base:=0) (n:=jb-1) (hint:=jb-1-1) (hA _ _ hv) hB (by omega) (by omega) (nQ λi j h1 h2=>ud sb (by omega) (by omega)) (S3.1.trans hk) λk2 C=>?_)
   obtain⟨B0,B1,B2⟩:=C
   dsimp only
   have kb:∀ z∈b.toList.take k2,key z<=key v:=λz hz=>by
    obtain⟨i,hi,e⟩:=bK.mp hz
    rw[aN]at hi
    have:=B1 i (by omega)
    rw[dz]at e
    rw[vH,cB,iN (key:=key) (show b[i]? = some z by rw[<-aw,ao (by omega),e])]at this
    omega
   apply tH
   case h=>
    intro J
    apply fO
    case h1=>
     intro g5
     have m4:MH key a.toList b.toList (uL.push u++(b.extract k2 (jb-1)).reverse).toList ja' k2:=by
      have:=m3.vE sb (jb-1-k2) k2 (by omega) (by omega) λi y' h1 h2 hy' x hx=>by
       have:=B2 i h1 h2
       rw[qf,cB,iN (key:=key) (show b[i]? = some y' by rw[<-aw];exact hy')]at this
       have:=dA (by omega) hv x hx
       omega
      simpa [bz,aO]using this
     refine fO (λg6=>aF ⟨S3,_,_,_,_,_,_,_,rfl,.inl ⟨_,rfl,fF m4 (by simpa using g6)⟩⟩) (λg6=>?_)
     have g6:k2≠1:=by simpa using g6
     refine fO (λg8=>aF ⟨S3,_,_,_,_,_,_,_,rfl,.inl ⟨_,rfl,fB m4 (by simpa using g8)⟩⟩) (λg8=>?_)
     have g8:k2≠0:=by simpa using g8
     have j3:2<=k2:=by omega
     have j5:k2<=b.size:=by omega
     have j4:ja'+k2<=na'+nb':=by omega
     have kb1:=kb
     generalize jb-1-k2=kk2
     generalize uL.push u++(b.extract k2 (jb-1)).reverse=AA at m4 ⊢
     generalize k2=jb' at m4 j3 j5 kb1 j4 ⊢
     revert kk2 AA jb'
     exact J ()
    case h2=>
     intro g5
     have ek:k2=jb-1:=by omega
     have kb1:=kb
     rw[ek]at kb1
     have m4:=m3
     have j3:2<=jb-1:=by omega
     have j5:jb-1<=b.size:=by omega
     have j4:ja'+(jb-1)<=na'+nb':=by omega
     exact J () _ _ _ m4 j3 j5 kb1 j4
   intro kk2 AA jb' m4 j3 j5 kb j4
   refine ax (gP hv ?_)
   have m5:MH key a.toList b.toList (AA.push v).toList (ja'-1) jb':=by
    rw[b8]
    exact m4.tj sa j1 (ga hv) kb
   refine fO (λg7=>aF ⟨S3,_,_,_,_,_,_,_,rfl,.inl ⟨_,rfl,fA m5 (by simpa using g7)⟩⟩) (λg7=>?_)
   have g7:ja'-1≠0:=by simpa using g7
   refine fO (λ_=>?_) (λ_=>?_)
   ·exact aF ⟨S3,_,_,_,_,_,_,_,rfl,.inr ⟨rfl,m5,by omega,j3,by omega,j5,by omega⟩⟩
   ·exact aF ⟨S3,_,_,_,_,_,_,rfl,m5,by omega,j3,by omega,j5,by omega⟩
  ·rintro c st3 ⟨S3,ja,jb,out,g,ac,bc,rfl,m,i1,i2,z1,z2,i5⟩
   exact⟨S3,_,_,_,_,_,_,_,rfl,.inr ⟨rfl,m,i1,i2,z1,z2,i5⟩⟩
  rintro c st3 ⟨S3,o,ja,jb,out,g,ac,bc,rfl,z⟩
  rcases z with⟨r,rfl,z⟩|⟨rfl,m,i1,i2,x1,x2,i5⟩
  ·exact aF ⟨S3,_,_,_,_,_,rfl,z⟩
  ·exact ax (md S3 λst4 S3=>aF ⟨S3,_,_,_,_,rfl,m,i1,i2,x1,x2,(by show ja+jb+(x+1+1)<=a.size+b.size;omega)⟩)
 ·rintro c st' ⟨S1,na,nb,out,g,rfl,m,i1,i2,x1,x2,i3⟩
  omega
 rintro c st' ⟨S1,r,na,nb,out,g,rfl,z⟩
 exact aF (h r st' z S1)
end
section
variable {key:Keyed->Int}
noncomputable def mR (key:Keyed->Int)(arr:Array Keyed)(s n:Nat):Prop:=∀ i j,i<=j->j<n->Ka key arr (s+i)<=Ka key arr (s+j)
noncomputable def Pd (key:Keyed->Int)(arr:Array Keyed):Nat->List (Nat×Nat×Nat)->Nat->Prop
 |s,[],lo=>s=lo
 |s,p::r,lo=>p.1=s/\1<=p.2.1/\mR key arr s p.2.1/\Pd key arr (s+p.2.1) r lo
theorem mR.congr {kK:Array Keyed}{s:Nat}(h:mR key arr s n)(e:∀ i,s<=i->i<s+n->Ka key kK i=Ka key arr i):mR key kK s n:=λi j hij hj=>by
 rw[e _ (by omega) (by omega),e _ (by omega) (by omega)];exact h i j hij hj
theorem Pd.le {arr:Array Keyed} :∀ {p:List (Nat×Nat×Nat)}{s lo:Nat},Pd key arr s p lo->s+p.length<=lo
 |[],s,lo,h=>by have h:s=lo:=h;simp[h]
 |p::r,s,lo,h=>by
  have:=Pd.le h.2.2.2
  have:=h.2.1
  rw[aQ];omega
theorem Pd.congr {arr kK:Array Keyed} :∀ {p:List (Nat×Nat×Nat)}{s lo:Nat},Pd key arr s p lo->(∀ i,s<=i->i<lo->Ka key kK i=Ka key arr i)->Pd key kK s p lo
 |[],s,lo,h,_=>h
 |p::r,s,lo,h,e=>⟨h.1,h.2.1,h.2.2.1.congr λi h1 h2=>e i h1 (by have:=Pd.le h.2.2.2;omega),Pd.congr h.2.2.2 λi h1 h2=>e i (by omega) h2⟩
theorem Pd.snoc {arr:Array Keyed} :∀ {p:List (Nat×Nat×Nat)}{s lo n pw:Nat},Pd key arr s p lo->1<=n->mR key arr lo n->Pd key arr s (p ++ [(lo,n,pw)]) (lo+n)
 |[],s,lo,n,pw,h,h1,h2=>by
  have h:s=lo:=h
  subst h
  exact⟨rfl,h1,h2,rfl⟩
 |p::r,s,lo,n,pw,h,h1,h2=>⟨h.1,h.2.1,h.2.2.1,Pd.snoc h.2.2.2 h1 h2⟩
theorem Pd.two {arr:Array Keyed} :∀ {p:List (Nat×Nat×Nat)}{s lo i:Nat}{a b:Nat×Nat×Nat},Pd key arr s p lo->p[i]? = some a->p[i+1]? = some b->
  s<=a.1/\b.1=a.1+a.2.1/\1<=a.2.1/\1<=b.2.1/\mR key arr a.1 a.2.1/\mR key arr b.1 b.2.1/\b.1+b.2.1<=lo/\
  ∀ kK,(∀ j,j<a.1\/b.1+b.2.1<=j->Ka key kK j=Ka key arr j)->mR key kK a.1 (a.2.1+b.2.1)->Pd key kK s ((p.set i (a.1,a.2.1+b.2.1,a.2.2)).eraseIdx (i+1)) lo
 |[],s,lo,i,a,b,h,h1,_=>by simp at h1
 |q::r,s,lo,0,a,b,h,h1,h2=>by
  have h1:q=a:=by simpa using h1
  subst h1
  cases r with
  |nil=>simp at h2
  |cons q2 r=>
   have h2:q2=b:=by simpa using h2
   subst h2
   obtain⟨e1,n1,g1,e2,n2,g2,t⟩:=h
   have l:=Pd.le t
   refine⟨by omega,by omega,n1,n2,by rw[e1];exact g1,by rw[e2];exact g2,by omega,λkK ag sg=>?_⟩
   show Pd key kK s ((q.1,q.2.1+q2.2.1,q.2.2)::r) lo
   refine⟨e1,by show 1<=q.2.1+q2.2.1;omega,by rw[e1]at sg;exact sg,?_⟩
   show Pd key kK (s+(q.2.1+q2.2.1)) r lo
   rw[<-Nat.add_assoc]
   exact t.congr λj h1 h2=>ag j (.inr (by omega))
 |q::r,s,lo,i+1,a,b,h,h1,h2=>by
  obtain⟨e1,n1,g1,t⟩:=h
  obtain⟨a1,a2,a3,a4,a5,a6,a7,a8⟩:=Pd.two t (by simpa using h1) (by simpa using h2)
  refine⟨by omega,a2,a3,a4,a5,a6,a7,λkK ag sg=>?_⟩
  show Pd key kK s (q::(r.set i _).eraseIdx (i+1)) lo
  exact⟨e1,n1,g1.congr λj h1 h2=>ag j (.inl (by omega)),a8 kK ag sg⟩
theorem zX (b:Nat):∀ (l:List Keyed) (o:Nat) (arr:Array Keyed),b+o+l.length<=arr.size->∀ i:Nat,((l.zipIdx o).foldl (λa (pj:Keyed×Nat)=>a.setIfInBounds (b+pj.2) pj.1) arr)[i]? = if b+o<=i/\i<b+o+l.length then l[i-(b+o)]? else arr[i]?
 |[],o,arr,h,i=>by rw[au (by simp)];rfl
 |x::l,o,arr,h,i=>by
  rw[aQ]at h
  rw[List.zipIdx_cons,List.foldl_cons,zX b l (o+1) _ (by rw[Array.size_setIfInBounds];omega) i,Array.getElem?_setIfInBounds]
  rw[aQ]
  by_cases g:i=b+o
  ·subst g
   rw[au (by omega),aA rfl,aA (by omega),aA (by omega),cP];rfl
  ·by_cases g2:b+o<=i/\i<b+o+(l.length+1)
   ·rw[aA (by omega),aA g2]
    rw[show i-(b+o)=i-(b+(o+1))+1 by omega];rfl
   ·rw[au (by omega),au g2,au (λz=>g z.symm)]
end
variable {lo:Nat}
section
variable {prog:Program}{w:World}{A:Around}{E:Value->Shared->Prop}{s:Shared}{κ:SortKind}{key:Keyed->Int}{D:Keyed->Prop}
structure Sok (κ:SortKind)(key:Keyed->Int)(D:Keyed->Prop)(a₀:Array Keyed)(lo:Nat)(st:SortSt):Prop where
 kind:PyProof.Rows.kindOf st=κ
 fail:failedOf st=none
 perm:(arrOf st).Perm a₀
 pend:Pd key (arrOf st) 0 (pendingOf st).toList lo
theorem Sok.size {a₀:Array Keyed}{st:SortSt}(h:Sok κ key D a₀ lo st):(arrOf st).size=a₀.size:=by
 have:=(cV.mp h.perm).length_eq
 simpa using this
theorem Sok.dom {a₀:Array Keyed}{st:SortSt}(h:Sok κ key D a₀ lo st)(hD:∀ x∈a₀.toList,D x)(i:Nat)(x:Keyed)(hx:(arrOf st)[i]? = some x):D x:=
 hD x ((cV.mp h.perm).mem_iff.mp (aD (by rw[aw];exact hx)))
theorem G0 {x:SortSt}{Q:PUnit->SortSt->Prop}{st:SortSt}(h:∀ st1,PyProof.Rows.kindOf st1=PyProof.Rows.kindOf x->arrOf st1=arrOf x->pendingOf st1=pendingOf x->failedOf st1=failedOf x->Q ⟨⟩ st1):wpS (model prog w) A E s (set x:StateT SortSt Sem PUnit) Q st:=by
 unfold wpS;rw[StateT.run_set];exact aj ⟨rfl,h x rfl rfl rfl rfl⟩
theorem uX (O:Orc prog w A s κ key D){a₀:Array Keyed}(hD:∀ x∈a₀.toList,D x){st:SortSt}(S:Sok κ key D a₀ lo st)(hlo:lo<=a₀.size)(hi:i+1<(pendingOf st).size){Q:Bool->SortSt->Prop}
  (h:∀ st',Sok κ key D a₀ lo st'->(pendingOf st').size+1=(pendingOf st).size->(∀ j,lo<=j->Ka key (arrOf st') j=Ka key (arrOf st) j)->Q true st'):wpS (model prog w) A E s (mergeAt' i) Q st:=by
 obtain⟨⟨sa,na,pw⟩,ea⟩:∃ a,(pendingOf st)[i]? = some a:=⟨_,aS (by omega)⟩
 obtain⟨⟨sb,nb,pw2⟩,eb⟩:∃ b,(pendingOf st)[i+1]? = some b:=⟨_,aS hi⟩
 have hs:=S.size
 have dm:=S.dom hD
 obtain⟨_,e1,n1,n2,g1,g2,le,mk⟩:=S.pend.two (by rw[aw];exact ea) (by rw[aw];exact eb)
 dsimp only at e1 n1 n2 g1 g2 le mk
 have lp:(((pendingOf st).setIfInBounds i (sa,na+nb,pw)).eraseIdxIfInBounds (i+1)).toList=((pendingOf st).toList.set i (sa,na+nb,pw)).eraseIdx (i+1):=by
  rw[Array.toList_eraseIdxIfInBounds,Array.toList_setIfInBounds]
 have sz:(((pendingOf st).setIfInBounds i (sa,na+nb,pw)).eraseIdxIfInBounds (i+1)).size+1=(pendingOf st).size:=by
  have:=cg List.length lp
  rw[ah,List.length_eraseIdx,List.length_set,ah,aA hi]at this
  omega
 refine ax (wpS_get ?_)
 dsimp only
 rw[ea,eb]
 dsimp only
 refine ax (G0 λst1 k1 k2 k3 k4=>?_)
 have k1:PyProof.Rows.kindOf st1=κ:=k1.trans S.kind
 have k2:arrOf st1=arrOf st:=k2
 have k3:pendingOf st1=((pendingOf st).setIfInBounds i (sa,na+nb,pw)).eraseIdxIfInBounds (i+1):=k3
 have k4:failedOf st1=none:=k4.trans S.fail
 have same:mR key (arrOf st) sa (na+nb)->Q true st1:=λsg=>h st1 ⟨k1,k4,by rw[k2];exact S.perm,by rw[k2,k3,lp];exact mk _ (λ_ _=>rfl) sg⟩ (by rw[k3];exact sz) (λj _=>by rw[k2])
 obtain⟨u,hu⟩:=gU (show sb<(arrOf st).size by omega)
 have ku:=iN (key:=key) hu
 refine ax (gP hu ?_)
 refine ax (mh O (base:=sa) (n:=na) (hint:=0) (dm _ _ hu) dm (by omega) (by omega) (nQ g1) k1 λk C=>?_)
 obtain⟨C0,C1,C2⟩:=C
 have C1:∀ i,i<k->Ka key (arrOf st) (sa+i)<=key u:=λi hi=>by have:=C1 i hi;rw[sI]at this;omega
 have C2:∀ i,k<=i->i<na->key u<Ka key (arrOf st) (sa+i):=λi hi h2=>by have:=C2 i hi h2;rw[oE]at this;exact this
 have bu:∀ i,i<nb->key u<=Ka key (arrOf st) (sb+i):=λi hi=>by
  have:=g2 0 i (by omega) hi
  rw[cC,ku]at this
  exact this
 dsimp only
 refine fO (λe=>aF (same λi j hij hj=>?_)) (λe=>?_)
 ·have e:na-k=0:=by simpa using e
  by_cases q:j<na
  ·exact g1 i j hij q
  ·have h2:=bu (j-na) (by omega)
   rw[show sb+(j-na)=sa+j by omega]at h2
   by_cases q2:i<na
   ·have:=C1 i (by omega)
    omega
   ·have:=g2 (i-na) (j-na) (by omega) (by omega)
    rw[show sb+(j-na)=sa+j by omega,show sb+(i-na)=sa+i by omega]at this
    exact this
 have e:na-k≠0:=by simpa using e
 obtain⟨v,hv⟩:=gU (show sa+k+(na-k)-1<(arrOf st).size by omega)
 have kv:=iN (key:=key) hv
 refine ax (gP hv ?_)
 refine ax (mh O (base:=sb) (n:=nb) (hint:=nb-1) (dm _ _ hv) dm (by omega) (by omega) (nQ g2) k1 λm C=>?_)
 obtain⟨B0,B1,B2⟩:=C
 have B1:∀ i,i<m->Ka key (arrOf st) (sb+i)<key v:=λi hi=>by have:=B1 i hi;rw[vH]at this;exact this
 have B2:∀ i,m<=i->i<nb->key v<=Ka key (arrOf st) (sb+i):=λi hi h2=>by have:=B2 i hi h2;rw[qf]at this;omega
 have av:∀ i,i<na->Ka key (arrOf st) (sa+i)<=key v:=λi hi=>by
  have:=g1 i (na-1) (by omega) (by omega)
  rw[show sa+(na-1)=sa+k+(na-k)-1 by omega,kv]at this
  exact this
 dsimp only
 refine fO (λe=>aF (same λi j hij hj=>?_)) (λe3=>?_)
 ·have e:m=0:=by simpa using e
  by_cases q:j<na
  ·exact g1 i j hij q
  ·have h2:=B2 (j-na) (by omega) (by omega)
   rw[show sb+(j-na)=sa+j by omega]at h2
   by_cases q2:i<na
   ·have:=av i q2
    omega
   ·have:=g2 (i-na) (j-na) (by omega) (by omega)
    rw[show sb+(j-na)=sa+j by omega,show sb+(i-na)=sa+i by omega]at this
    exact this
 have e3:m≠0:=by simpa using e3
 have zx:((arrOf st).extract (sa+k) sb).size=na-k:=by rw[Array.size_extract];omega
 have zy:((arrOf st).extract sb (sb+m)).size=m:=by rw[Array.size_extract];omega
 have gx:∀ t:Nat,t<na-k->((arrOf st).extract (sa+k) sb)[t]? = (arrOf st)[sa+k+t]? :=λt ht=>by rw[Array.getElem?_extract,aA (by omega)]
 have gy:∀ t:Nat,t<m->((arrOf st).extract sb (sb+m))[t]? = (arrOf st)[sb+t]? :=λt ht=>by rw[Array.getElem?_extract,aA (by omega)]
 have mx:∀ z∈((arrOf st).extract (sa+k) sb).toList,∃ t,t<na-k/\(arrOf st)[sa+k+t]? = some z:=λz hz=>by
  obtain⟨t,ht,et⟩:=bK.mp hz
  rw[ah,zx]at ht
  refine⟨t,ht,?_⟩
  rw[<-gx t ht,<-aw,ao (by rw[ah,zx];exact ht),et]
 have my:∀ z∈((arrOf st).extract sb (sb+m)).toList,∃ t,t<m/\(arrOf st)[sb+t]? = some z:=λz hz=>by
  obtain⟨t,ht,et⟩:=bK.mp hz
  rw[ah,zy]at ht
  refine⟨t,ht,?_⟩
  rw[<-gy t ht,<-aw,ao (by rw[ah,zy];exact ht),et]
 have px:∀ z∈((arrOf st).extract (sa+k) sb).toList,key u<=key z/\key z<=key v:=λz hz=>by
  obtain⟨t,ht,et⟩:=mx z hz
  have h1:=C2 (k+t) (by omega) (by omega)
  have h2:=av (k+t) (by omega)
  rw[show sa+(k+t)=sa+k+t by omega,iN et]at h1 h2
  omega
 have py:∀ z∈((arrOf st).extract sb (sb+m)).toList,key u<=key z/\key z<=key v:=λz hz=>by
  obtain⟨t,ht,et⟩:=my z hz
  have h1:=bu t (by omega)
  have h2:=B1 t ht
  rw[iN et]at h1 h2
  omega
 have sx:jW key ((arrOf st).extract (sa+k) sb).toList:=bD.mpr λi j hi hj hij=>by
  rw[ah,zx]at hi hj
  have h1:=g1 (k+i) (k+j) (by omega) (by omega)
  have e1:(arrOf st)[sa+k+i]? = some ((arrOf st).extract (sa+k) sb).toList[i]:=by rw[<-gx i hi,<-aw,ao (by rw[ah,zx];exact hi)]
  have e2:(arrOf st)[sa+k+j]? = some ((arrOf st).extract (sa+k) sb).toList[j]:=by rw[<-gx j hj,<-aw,ao (by rw[ah,zx];exact hj)]
  rw[show sa+(k+i)=sa+k+i by omega,show sa+(k+j)=sa+k+j by omega,iN e1,iN e2]at h1
  exact h1
 have sy:jW key ((arrOf st).extract sb (sb+m)).toList:=bD.mpr λi j hi hj hij=>by
  rw[ah,zy]at hi hj
  have h1:=g2 i j (by omega) (by omega)
  have e1:(arrOf st)[sb+i]? = some ((arrOf st).extract sb (sb+m)).toList[i]:=by rw[<-gy i hi,<-aw,ao (by rw[ah,zy];exact hi)]
  have e2:(arrOf st)[sb+j]? = some ((arrOf st).extract sb (sb+m)).toList[j]:=by rw[<-gy j hj,<-aw,ao (by rw[ah,zy];exact hj)]
  rw[iN e1,iN e2]at h1
  exact h1
 have hA:∀ (i:Nat) x,((arrOf st).extract (sa+k) sb)[i]? = some x->D x:=λi x hx=>by
  obtain⟨t,_,et⟩:=mx x (aD (by rw[aw];exact hx))
  exact dm _ _ et
 have hB:∀ (i:Nat) x,((arrOf st).extract sb (sb+m))[i]? = some x->D x:=λi x hx=>by
  obtain⟨t,_,et⟩:=my x (aD (by rw[aw];exact hx))
  exact dm _ _ et
 have h0:∀ x∈((arrOf st).extract (sa+k) sb).toList,∀ y,((arrOf st).extract sb (sb+m))[0]? = some y->key y<=key x:=λx hx y hy=>by
  rw[gy 0 (by omega),cC,hu]at hy
  cases hy
  exact(px x hx).1
 have hl:∀ y∈((arrOf st).extract sb (sb+m)).toList,∀ x,((arrOf st).extract (sa+k) sb)[((arrOf st).extract (sa+k) sb).size-1]? = some x->key y<=key x:=λy hy x hx=>by
  rw[zx,gx _ (by omega),show sa+k+(na-k-1)=sa+k+(na-k)-1 by omega,hv]at hx
  cases hx
  exact(py y hy).2
 have back:∀ r:Array Keyed,Mgd key ((arrOf st).extract (sa+k) sb).toList ((arrOf st).extract sb (sb+m)).toList r.toList->∀ kK,kK=r.toList.zipIdx.foldl (λa (pj:Keyed×Nat)=>a.setIfInBounds (sa+k+pj.2) pj.1) (arrOf st)->kK.Perm (arrOf st)/\(∀ j,j<sa\/sb+nb<=j->Ka key kK j=Ka key (arrOf st) j)/\mR key kK sa (na+nb):=by
  rintro r ⟨rs,rp⟩ kK rfl
  have rl:r.toList.length=na-k+m:=by
   have:=rp.length_eq
   rw[aU,ah,ah,ah,zx,zy]at this
   rw[ah];exact this
  have G:=zX (sa+k) r.toList 0 (arrOf st) (by omega)
  rw[cC,rl]at G
  have pr:∀ z∈r.toList,key u<=key z/\key z<=key v:=λz hz=>by
   rcases aJ.mp (rp.mem_iff.mp hz)with q |q
   ·exact px z q
   ·exact py z q
  generalize r.toList.zipIdx.foldl (λa (pj:Keyed×Nat)=>a.setIfInBounds (sa+k+pj.2) pj.1) (arrOf st)=kK at G
  have Go:∀ j,j<sa+k\/sb+m<=j->Ka key kK j=Ka key (arrOf st) j:=λj hj=>by
   have:=G j
   rw[au (by omega)]at this
   unfold Ka
   rw[bg,this,bg]
  have Gi:∀ j,sa+k<=j->j<sb+m->∃ z,r.toList[j-(sa+k)]? = some z/\Ka key kK j=key z:=λj h1 h2=>by
   have:=G j
   rw[aA (by omega)]at this
   have hz:r.toList[j-(sa+k)]? = some r.toList[j-(sa+k)]:=ao (by omega)
   rw[hz]at this
   exact⟨_,hz,iN this⟩
  refine⟨?_,λj hj=>Go j (by omega),λi j hij hj=>?_⟩
  ·rw[cV]
   have es:kK.size=(arrOf st).size:=by
    refine Nat.le_antisymm (Nat.le_of_not_lt λz=>?_) (Nat.le_of_not_lt λz=>?_)
    ·have:=G (arrOf st).size
     rw[au (by omega),dC (ai _),aS z]at this
     cases this
    ·have:=G kK.size
     rw[dC (ai _)]at this
     by_cases q:sa+k<=kK.size/\kK.size<sa+k+(na-k+m)
     ·rw[aA q,ao (by omega)]at this;cases this
     ·rw[au q,aS z]at this;cases this
   have el:kK.toList=(arrOf st).toList.take (sa+k)++(r.toList++(arrOf st).toList.drop (sb+m)):=by
    refine List.ext_getElem? λj=>?_
    rw[aw,G j]
    have ll:((arrOf st).toList.take (sa+k)).length=sa+k:=by rw[aN,ah];omega
    by_cases q1:j<sa+k
    ·rw[au (by omega),ba (by omega),List.getElem?_take,aA q1,aw]
    ·rw[bf (by omega),ll]
     by_cases q2:j<sb+m
     ·rw[aA (by omega),ba (by omega)]
     ·rw[au (by omega),bf (by omega),bE,aw]
      congr 1
      omega
   have eo:(arrOf st).toList=(arrOf st).toList.take (sa+k)++((((arrOf st).extract (sa+k) sb).toList++((arrOf st).extract sb (sb+m)).toList)++(arrOf st).toList.drop (sb+m)):=by
    rw[bz,bz,List.extract_eq_take_drop,List.extract_eq_take_drop]
    have a1:(arrOf st).toList.drop (sa+k)=((arrOf st).toList.drop (sa+k)).take (sb-(sa+k))++(arrOf st).toList.drop sb:=by
     have:=(cy (sb-(sa+k)) ((arrOf st).toList.drop (sa+k))).symm
     rw[List.drop_drop,show sa+k+(sb-(sa+k))=sb by omega]at this
     exact this
    have a2:(arrOf st).toList.drop sb=((arrOf st).toList.drop sb).take (sb+m-sb)++(arrOf st).toList.drop (sb+m):=by
     have:=(cy (sb+m-sb) ((arrOf st).toList.drop sb)).symm
     rw[List.drop_drop,show sb+(sb+m-sb)=sb+m by omega]at this
     exact this
    rw[aW,<-a2,<-a1,cy]
   rw[el]
   conv=>rhs;rw[eo]
   exact dG _ (List.Perm.append_right _ rp)
  ·-- rising
   by_cases i1:i<k
   ·rw[Go (sa+i) (by omega)]
    have c1:=C1 i i1
    by_cases j1:j<k
    ·rw[Go (sa+j) (by omega)];exact g1 i j hij (by omega)
    ·by_cases j2:j<na+m
     ·obtain⟨z,hz,ez⟩:=Gi (sa+j) (by omega) (by omega)
      have:=(pr z (aD hz)).1
      omega
     ·rw[Go (sa+j) (by omega)]
      have:=bu (j-na) (by omega)
      rw[show sb+(j-na)=sa+j by omega]at this
      omega
   ·by_cases i2:i<na+m
    ·obtain⟨z,hz,ez⟩:=Gi (sa+i) (by omega) (by omega)
     have c2:=(pr z (aD hz)).2
     by_cases j2:j<na+m
     ·obtain⟨z',hz',ez'⟩:=Gi (sa+j) (by omega) (by omega)
      rw[ez,ez']
      by_cases ee:i=j
      ·subst ee
       rw[hz]at hz';cases hz';exact ej _
      ·obtain⟨p1,rfl⟩:=af.mp hz
       obtain⟨p2,rfl⟩:=af.mp hz'
       exact bD.mp rs _ _ p1 p2 (by omega)
     ·rw[Go (sa+j) (by omega)]
      have:=B2 (j-na) (by omega) (by omega)
      rw[show sb+(j-na)=sa+j by omega]at this
      omega
    ·rw[Go (sa+i) (by omega),Go (sa+j) (by omega)]
     have:=g2 (i-na) (j-na) (by omega) (by omega)
     rw[show sb+(i-na)=sa+i by omega,show sb+(j-na)=sa+j by omega]at this
     exact this
 have last:∀ (r:Array Keyed) (st2:SortSt),Mgd key ((arrOf st).extract (sa+k) sb).toList ((arrOf st).extract sb (sb+m)).toList r.toList->SmS st1 st2->∀ st3,PyProof.Rows.kindOf st3=PyProof.Rows.kindOf st2->arrOf st3=r.toList.zipIdx.foldl (λa (pj:Keyed×Nat)=>a.setIfInBounds (sa+k+pj.2) pj.1) (arrOf st2)->pendingOf st3=pendingOf st2->failedOf st3=failedOf st2->Q (failedOf st3).isNone st3:=by
  intro r st2 M S2 st3 b1 b2 b3 b4
  rw[S2.2.1,k2]at b2
  obtain⟨c1,c2,c3⟩:=back r M _ b2
  have hf:failedOf st3=none:=b4.trans (S2.2.2.2.trans k4)
  rw[hf]
  refine h st3 ⟨b1.trans (S2.1.trans k1),hf,c1.trans S.perm,?_⟩ ?_ (λj hj=>c2 j (.inr (by omega)))
  ·rw[b3,S2.2.2.1,k3,lp];exact mk _ c2 c3
  ·rw[b3,S2.2.2.1,k3];exact sz
 refine fO (λ_=>ax (AK O hA hB sx sy (by omega) (by omega) h0 hl k1 λr st2 M S2=>?_)) (λ_=>ax (AL O hA hB sx sy (by omega) (by omega) h0 hl k1 λr st2 M S2=>?_))
 all_goals exact ax (wpS_modify (ax (wpS_get (aF (last r st2 M S2 _ rfl rfl rfl rfl)))))
end
section
variable {prog:Program}{w:World}{A:Around}{E:Value->Shared->Prop}{s:Shared}{κ:SortKind}{key:Keyed->Int}{D:Keyed->Prop}{a₀:Array Keyed}{lo:Nat}{st:SortSt}
theorem p8 (O:Orc prog w A s κ key D)(hD:∀ x∈a₀.toList,D x)(S:Sok κ key D a₀ lo st)(hi:i<a₀.size)(hj:j<a₀.size){Q:Option Bool->SortSt->Prop}(h:Q (some (decide (Ka key (arrOf st) i<Ka key (arrOf st) j))) st):wpS (model prog w) A E s (ltAt' i j) Q st:=by
 have hs:=S.size
 obtain⟨x,hx⟩:=gU (show i<(arrOf st).size by omega)
 obtain⟨y,hy⟩:=gU (show j<(arrOf st).size by omega)
 rw[iN hx,iN hy]at h
 rw[ltAt'_eq]
 refine ax (wpS_get ?_)
 refine ax (gP hx (ax (gP hy (uM O (S.dom hD _ _ hx) (S.dom hD _ _ hy) S.kind h))))
theorem yE {k:Nat}(hj:j<=arr.size):Ka key (mirror arr i j ((j-i)/2)) k=if i<=k/\k<j then Ka key arr (i+j-1-k)else Ka key arr k:=by
 unfold Ka
 rw[bg,getElem?_mirror_all hj]
 by_cases h:i<=k/\k<j
 ·rw[aA h,aA h,bg]
 ·rw[au h,au h,bg]
theorem sR (hj:j<=arr.size)(he:∀ k,i<=k->k<j->Ka key arr k=Ka key arr (j-1))(k:Nat):Ka key (mirror arr i j ((j-i)/2)) k=Ka key arr k:=by
 rw[yE hj]
 by_cases h:i<=k/\k<j
 ·rw[aA h,he k h.1 h.2,he _ (by omega) (by omega)]
 ·rw[au h]
theorem xN (S:Sok κ key D a₀ lo st)(hi:lo<=i)(hj:j<=a₀.size){Q:Unit->SortSt->Prop}(h:∀ st',Sok κ key D a₀ lo st'->arrOf st'=mirror (arrOf st) i j ((j-i)/2)->Q () st'):wpS (model prog w) A E s (reverseSlice' i j) Q st:=by
 rw[reverseSlice'_eq]
 refine wpS_modify (h _ ⟨S.kind,S.fail,(mirror_perm _ _ _ _).trans S.perm,S.pend.congr λk _ hk=>?_⟩ rfl)
 show Ka key (mirror (arrOf st) i j ((j-i)/2)) k=_
 rw[yE (by rw[S.size];exact hj),au (by omega)]
noncomputable def yC (key:Keyed->Int)(arr:Array Keyed)(lo n:Nat):Prop:=∀ i,1<=i->i<n->Ka key arr (lo+i-1)<=Ka key arr (lo+i)
noncomputable def E6 (key:Keyed->Int)(arr:Array Keyed)(lo n:Nat):Prop:=∀ i,1<=i->i<n->Ka key arr (lo+i)<=Ka key arr (lo+i-1)
theorem yC.seg (h:yC key arr lo n):mR key arr lo n:=by
 intro i j
 induction j with
 |zero=>intro hij _;rw[show i=0 by omega];exact ej _
 |succ j ih=>
  intro hij hj
  by_cases e:i=j+1
  ·rw[e];exact ej _
  ·have h1:=ih (by omega) (by omega)
   have h2:=h (j+1) (by omega) hj
   rw[show lo+(j+1)-1=lo+j by omega]at h2
   omega
theorem mR.rise (h:mR key arr lo n):yC key arr lo n:=λi h1 h2=>by
 have:=h (i-1) i (by omega) h2
 rw[show lo+(i-1)=lo+i-1 by omega]at this
 exact this
theorem CV (O:Orc prog w A s κ key D)(hD:∀ x∈a₀.toList,D x)(S:Sok κ key D a₀ lo st){sf:Nat}(h1:1<=sf)(hn:lo+sf<=a₀.size){Q:Option Nat->SortSt->Prop}
  (h:∀ n st',Sok κ key D a₀ lo st'->1<=n->n<=sf->mR key (arrOf st') lo n->Q (some n) st'):wpS (model prog w) A E s (countRun' lo sf) Q st:=by
 refine ax (cN (bI (I:=λx c st'=>st=st'/\c=(none,x)/\yC key (arrOf st) lo x)
  (Q:=λc st'=>st=st'/\∃ n,c=(none,n)/\1<=n/\n<=sf/\yC key (arrOf st) lo n/\(n<sf->Ka key (arrOf st) (lo+n)<Ka key (arrOf st) (lo+n-1))) ?_ ?_ ⟨rfl,rfl,λi a b=>absurd b (by omega)⟩) ?_)
 ·rintro x c st' hx1 hx ⟨rfl,rfl,R⟩
  dsimp only
  refine ax (p8 O hD S (by omega) (by omega) ?_)
  dsimp only
  by_cases q:Ka key (arrOf st) (lo+x)<Ka key (arrOf st) (lo+x-1)
  ·rw[aA (by simpa using q)]
   exact aF ⟨rfl,x,rfl,hx1,by omega,R,λ_=>q⟩
  ·rw[au (by simpa using q)]
   refine aF ⟨rfl,rfl,λi a b=>?_⟩
   by_cases e:i=x
   ·rw[e];omega
   ·exact R i a (by omega)
 ·rintro c st' ⟨rfl,rfl,R⟩
  rw[show max 1 sf=sf by omega]at R ⊢
  exact⟨rfl,sf,rfl,h1,ai _,R,λz=>absurd z (cf _)⟩
 rintro c st' ⟨rfl,n,rfl,n1,n2,R,dn⟩
 dsimp only
 refine fO (λe=>aF (h n st S n1 n2 R.seg)) (λe=>?_)
 have e:n≠sf:=by simpa using e
 have dn:=dn (by omega)
 have hs:=S.size
 apply tH
 case h=>
  intro J
  apply fO
  case h1=>
   intro g
   refine ax (p8 O hD S (by omega) (by omega) ?_)
   dsimp only
   refine fO (λq=>aF (h n st S n1 n2 R.seg)) (λq=>?_)
   have q:Ka key (arrOf st) (lo+n-1)<=Ka key (arrOf st) lo:=by
    have q:¬(Ka key (arrOf st) lo<Ka key (arrOf st) (lo+n-1)):=by simpa using q
    omega
   refine ax (xN S (ai _) (by omega) λst1 S1 e1=>?_)
   have F:E6 key (arrOf st1) lo (n+1):=by
    have all:∀ k,lo<=k->k<lo+n->Ka key (arrOf st) k=Ka key (arrOf st) (lo+n-1):=λk a b=>by
     have c1:=R.seg 0 (k-lo) (by omega) (by omega)
     have c2:=R.seg (k-lo) (n-1) (by omega) (by omega)
     rw[show lo+(k-lo)=k by omega]at c1 c2
     rw[show lo+(n-1)=lo+n-1 by omega]at c2
     rw[cC]at c1
     omega
    have G:=sR (key:=key) (arr:=arrOf st) (i:=lo) (j:=lo+n) (by omega) all
    intro i a b
    rw[e1,G,G]
    by_cases z:i=n
    ·rw[z];omega
    ·have:=all (lo+i) (by omega) (by omega)
     have:=all (lo+i-1) (by omega) (by omega)
     omega
   clear e1
   revert st1
   exact J ()
  case h2=>
   intro g
   have F:E6 key (arrOf st) lo (n+1):=λi a b=>by
    rw[show i=n by omega];omega
   exact J () st S F
 intro st1 S1 F
 clear dn R hs S
 refine ax (kO (eB ⟨rfl,?_⟩))
 refine ax (cN (bI (I:=λx c st'=>Sok κ key D a₀ lo st'/\∃ q,c=(none,x,q)/\q+1<=x/\x<=sf/\E6 key (arrOf st') lo x/\∀ k,lo+x-(q+1)<=k->k<lo+x->Ka key (arrOf st') k=Ka key (arrOf st') (lo+x-1))
  (Q:=λc st'=>Sok κ key D a₀ lo st'/\∃ x q,c=(none,x,q)/\q+1<=x/\x<=sf/\E6 key (arrOf st') lo x/\∀ k,lo+x-(q+1)<=k->k<lo+x->Ka key (arrOf st') k=Ka key (arrOf st') (lo+x-1)) ?_ ?_ ⟨S1,0,rfl,by omega,by omega,F,λk a b=>by rw[show k=lo+(n+1)-1 by omega]⟩) ?_)
 ·rintro x c st' hx1 hx ⟨S2,q,rfl,q1,q2,F,eq⟩
  dsimp only
  have hs:=S2.size
  refine ax (p8 O hD S2 (by omega) (by omega) ?_)
  dsimp only
  by_cases z:Ka key (arrOf st') (lo+x)<Ka key (arrOf st') (lo+x-1)
  ·rw[aA (by simpa using z)]
   refine fO (λg2=>?_) (λg2=>?_)
   ·refine ax (xN S2 (by omega) (by omega) λst3 S3 e3=>aF ⟨S3,0,rfl,by omega,by omega,λi a b=>?_,λk a b=>by rw[show k=lo+(x+1)-1 by omega]⟩)
    have G:=sR (key:=key) (arr:=arrOf st') (i:=lo+x-(q+1)) (j:=lo+x) (by omega) eq
    rw[e3,G,G]
    by_cases y:i=x
    ·rw[y];omega
    ·exact F i a (by omega)
   ·refine aF ⟨S2,0,rfl,by omega,by omega,λi a b=>?_,λk a b=>by rw[show k=lo+(x+1)-1 by omega]⟩
    by_cases y:i=x
    ·rw[y];omega
    ·exact F i a (by omega)
  ·rw[au (by simpa using z)]
   refine ax (p8 O hD S2 (by omega) (by omega) ?_)
   dsimp only
   by_cases y:Ka key (arrOf st') (lo+x-1)<Ka key (arrOf st') (lo+x)
   ·rw[aA (by simpa using y)]
    exact aF ⟨S2,x,q,rfl,q1,q2,F,eq⟩
   ·rw[au (by simpa using y)]
    refine aF ⟨S2,q+1,rfl,by omega,by omega,λi a b=>?_,λk a b=>?_⟩
    ·by_cases v:i=x
     ·rw[v];omega
     ·exact F i a (by omega)
    ·rw[show lo+(x+1)-1=lo+x by omega]
     by_cases v:k=lo+x
     ·rw[v]
     ·rw[eq k (by omega) (by omega)];omega
 ·rintro c st' ⟨S2,q,rfl,q1,q2,F,eq⟩
  exact⟨S2,_,q,rfl,q1,q2,F,eq⟩
 clear F S1
 rintro c st' ⟨S2,x,q,rfl,q1,q2,F,eq⟩
 dsimp only
 have hs:=S2.size
 apply tH
 case h=>
  intro J
  apply fO
  case h1=>
   intro g2
   refine ax (xN S2 (by omega) (by omega) λst3 S3 e3=>?_)
   have F3:E6 key (arrOf st3) lo x:=λi a b=>by
    have G:=sR (key:=key) (arr:=arrOf st') (i:=lo+x-(q+1)) (j:=lo+x) (by omega) eq
    rw[e3,G,G];exact F i a b
   clear e3
   revert st3
   exact J ()
  case h2=>
   intro g2
   exact J () st' S2 F
 intro st3 S3 F3
 clear F eq S2 hs
 have hs:=S3.size
 refine ax (xN S3 (ai _) (by omega) λst4 S4 e4=>?_)
 have R4:yC key (arrOf st4) lo x:=λi a b=>by
  rw[e4,yE (by omega),yE (by omega),aA (by omega),aA (by omega)]
  have:=F3 (x-i) (by omega) (by omega)
  rw[show lo+(lo+x)-1-(lo+i-1)=lo+(x-i) by omega,show lo+(lo+x)-1-(lo+i)=lo+(x-i)-1 by omega]
  exact this
 refine ax (cN (bI (I:=λy c st'=>st4=st'/\c=(none,y)/\yC key (arrOf st4) lo y)
  (Q:=λc st'=>st4=st'/\∃ n,c=(none,n)/\1<=n/\n<=sf/\yC key (arrOf st4) lo n) ?_ ?_ ⟨rfl,rfl,R4⟩) ?_)
 ·rintro y c st' hx1 hx ⟨rfl,rfl,R⟩
  dsimp only
  refine ax (p8 O hD S4 (by omega) (by omega) ?_)
  dsimp only
  by_cases z:Ka key (arrOf st4) (lo+y)<Ka key (arrOf st4) (lo+y-1)
  ·rw[aA (by simpa using z)]
   exact aF ⟨rfl,y,rfl,by omega,by omega,R⟩
  ·rw[au (by simpa using z)]
   refine aF ⟨rfl,rfl,λi a b=>?_⟩
   by_cases e:i=y
   ·rw[e];omega
   ·exact R i a (by omega)
 ·rintro c st' ⟨rfl,rfl,R⟩
  exact⟨rfl,_,rfl,by omega,by omega,R⟩
 rintro c st' ⟨rfl,n,rfl,n1,n2,R⟩
 exact aF (h n st4 S4 n1 n2 R.seg)
theorem Ig {k m:Nat}(hk:k<arr.size)(hm:m<=k):Ka key (bubble arr k (k-m)) i=if i=m then Ka key arr k else if m<i/\i<=k then Ka key arr (i-1)else Ka key arr i:=by
 unfold Ka
 rw[bg,getElem?_bubble hk _ (by omega),show k-(k-m)=m by omega]
 by_cases h1:i=m
 ·rw[aA h1,aA h1,bg]
 ·rw[au h1,au h1]
  by_cases h2:m<i/\i<=k
  ·rw[aA h2,aA h2,bg]
  ·rw[au h2,au h2,bg]
theorem F7 (O:Orc prog w A s κ key D)(hD:∀ x∈a₀.toList,D x)(S:Sok κ key D a₀ lo st){ok:Nat}(h1:1<=ok)(h2:ok<=n)(hn:lo+n<=a₀.size)(sg:mR key (arrOf st) lo ok){Q:Bool->SortSt->Prop}
  (h:∀ st',Sok κ key D a₀ lo st'->mR key (arrOf st') lo n->Q true st'):wpS (model prog w) A E s (binarySort' lo n ok) Q st:=by
 refine ax (cN (bI (I:=λk c st'=>Sok κ key D a₀ lo st'/\c=(none,())/\mR key (arrOf st') lo k) (Q:=λc st'=>Sok κ key D a₀ lo st'/\c=(none,())/\mR key (arrOf st') lo n) ?_ ?_ ⟨S,rfl,by rw[show max ok 1=ok by omega];exact sg⟩) ?_)
 ·rintro k c st' hk1 hk ⟨S1,rfl,sg⟩
  dsimp only
  have hs:=S1.size
  refine ax (cN (bI (I:=λx c st2=>st'=st2/\∃ l r,c=(none,l,r)/\l<=r/\r<=k/\r+x<=k+l/\(∀ i,i<l->Ka key (arrOf st') (lo+i)<=Ka key (arrOf st') (lo+k))/\(∀ i,r<=i->i<k->Ka key (arrOf st') (lo+k)<=Ka key (arrOf st') (lo+i)))
   (Q:=λc st2=>st'=st2/\∃ l r,c=(none,l,r)/\l<=k/\(∀ i,i<l->Ka key (arrOf st') (lo+i)<=Ka key (arrOf st') (lo+k))/\(∀ i,l<=i->i<k->Ka key (arrOf st') (lo+k)<=Ka key (arrOf st') (lo+i))) ?_ ?_ ⟨rfl,0,k,rfl,aP _,ai _,by omega,λi z=>absurd z (by omega),λi a b=>absurd b (by omega)⟩) ?_)
  ·rintro x c st2 _ hx ⟨rfl,l,r,rfl,a1,a2,a3,a4,a5⟩
   dsimp only
   refine fO (λg=>aF ⟨rfl,l,r,rfl,by omega,a4,λi b1 b2=>a5 i (by omega) b2⟩) (λg=>?_)
   refine ax (p8 O hD S1 (by omega) (by omega) ?_)
   dsimp only
   by_cases z:Ka key (arrOf st') (lo+k)<Ka key (arrOf st') (lo+(l+r)/2)
   ·rw[aA (by simpa using z)]
    refine aF ⟨rfl,l,_,rfl,by omega,by omega,by omega,a4,λi b1 b2=>?_⟩
    have:=sg ((l+r)/2) i b1 b2
    omega
   ·rw[au (by simpa using z)]
    refine aF ⟨rfl,_,r,rfl,by omega,by omega,by omega,λi b1=>?_,a5⟩
    have:=sg i ((l+r)/2) (by omega) (by omega)
    omega
  ·rintro c st2 ⟨rfl,l,r,rfl,a1,a2,a3,a4,a5⟩
   exact⟨rfl,l,r,rfl,by omega,a4,λi b1 b2=>a5 i (by omega) b2⟩
  rintro c st2 ⟨rfl,l,r,rfl,a1,a4,a5⟩
  dsimp only
  have G:∀ i,Ka key (bubble (arrOf st') (lo+k) (lo+k-(lo+l))) i=if i=lo+l then Ka key (arrOf st') (lo+k)else if lo+l<i/\i<=lo+k then Ka key (arrOf st') (i-1)else Ka key (arrOf st') i:=λi=>Ig (by omega) (by omega)
  refine ax (wpS_modify (aF ⟨⟨S1.kind,S1.fail,(bubble_perm _ _ _).trans S1.perm,S1.pend.congr λj _ hj=>?_⟩,rfl,yC.seg λi b1 b2=>?_⟩))
  ·show Ka key (bubble (arrOf st') (lo+k) (lo+k-(lo+l))) j=_
   rw[G,au (by omega),au (by omega)]
  ·show Ka key (bubble (arrOf st') (lo+k) (lo+k-(lo+l))) (lo+i-1)<=Ka key (bubble (arrOf st') (lo+k) (lo+k-(lo+l))) (lo+i)
   rw[G,G]
   have R:=sg.rise
   by_cases c1:i<l
   ·rw[au (by omega),au (by omega),au (by omega),au (by omega)]
    exact R i b1 (by omega)
   ·by_cases c2:i=l
    ·rw[au (by omega),au (by omega),aA (by omega),show lo+i-1=lo+(i-1) by omega]
     exact a4 (i-1) (by omega)
    ·rw[au (show ¬lo+i=lo+l by omega),aA (show lo+l<lo+i/\lo+i<=lo+k by omega)]
     by_cases c3:i-1=l
     ·rw[aA (by omega),show lo+i-1=lo+(i-1) by omega]
      exact a5 (i-1) (by omega) (by omega)
     ·rw[au (by omega),aA (by omega)]
      have:=R (i-1) (by omega) (by omega)
      rw[show lo+(i-1)-1=lo+i-1-1 by omega,show lo+(i-1)=lo+i-1 by omega]at this
      exact this
 ·rintro c st' ⟨S1,rfl,sg⟩
  rw[show max (max ok 1) n=n by omega]at sg
  exact⟨S1,rfl,sg⟩
 rintro c st' ⟨S1,rfl,sg⟩
 exact aF (h st' S1 sg)
end
section
variable {prog:Program}{w:World}{A:Around}{E:Value->Shared->Prop}{s:Shared}{κ:SortKind}{key:Keyed->Int}{D:Keyed->Prop}{a₀:Array Keyed}{lo:Nat}{st:SortSt}
theorem Pd.mod {arr:Array Keyed}{f:Nat×Nat×Nat->Nat×Nat×Nat}(h1:∀ x,(f x).1=x.1)(h2:∀ x,(f x).2.1=x.2.1):∀ {p:List (Nat×Nat×Nat)}{s lo:Nat} (i:Nat),Pd key arr s p lo->Pd key arr s (p.modify i f) lo
 |[],s,lo,i,h=>by cases i<;>exact h
 |q::p,s,lo,0,h=>by
  show Pd key arr s (f q::p) lo
  exact⟨(h1 q).trans h.1,by rw[h2];exact h.2.1,by rw[h2];exact h.2.2.1,by rw[h2];exact h.2.2.2⟩
 |q::p,s,lo,i+1,h=>⟨h.1,h.2.1,h.2.2.1,Pd.mod h1 h2 i h.2.2.2⟩
theorem Sok.push (S:Sok κ key D a₀ lo st){m:Nat}(h1:1<=m)(sg:mR key (arrOf st) lo m){pw:Nat} :Sok κ key D a₀ (lo+m) (setPending st ((pendingOf st).push (lo,m,pw))):=
 ⟨S.kind,S.fail,S.perm,by
  show Pd key (arrOf st) 0 ((pendingOf st).push (lo,m,pw)).toList (lo+m)
  rw[b8]
  exact S.pend.snoc h1 sg⟩
theorem Sok.K5 (S:Sok κ key D a₀ lo st){f:Nat×Nat×Nat->Nat×Nat×Nat}(h1:∀ x,(f x).1=x.1)(h2:∀ x,(f x).2.1=x.2.1) :Sok κ key D a₀ lo (setPending st ((pendingOf st).modify i f)):=
 ⟨S.kind,S.fail,S.perm,by
  show Pd key (arrOf st) 0 ((pendingOf st).modify i f).toList lo
  rw[Array.toList_modify]
  exact S.pend.mod h1 h2 i⟩
theorem Sok.IU (S:Sok κ key D a₀ lo st)(pw i:Nat):Sok κ key D a₀ lo (setPending st ((pendingOf st).modify i λx=>(x.1,x.2.1,pw))):=S.K5 (f:=λx=>(x.1,x.2.1,pw)) (λ_=>rfl) (λ_=>rfl)
theorem uW:∀ (f n r:Nat),1<=n->1<=minRun' f n r
 | 0,n,r,h=>by show 1<=n+r;omega
 |f+1,n,r,h=>by
  rw[minRun'_succ]
  by_cases g:n<64
  ·rw[aA g];omega
  ·rw[au g];exact uW f _ _ (by omega)
theorem DG (O:Orc prog w A s κ key D)(hD:∀ x∈a₀.toList,D x)(S:Sok κ key D a₀ 0 st)(e0:arrOf st=a₀)(ep:pendingOf st = #[]){Q:Unit->SortSt->Prop}
  (h:∀ st',(arrOf st').Perm a₀->failedOf st'=none->mR key (arrOf st') 0 a₀.size->Q () st'):wpS (model prog w) A E s sortRuns' Q st:=by
 rw[sortRuns'_eq]
 refine ax (wpS_get ?_)
 dsimp only
 rw[e0]
 refine ax (cN (bI (I:=λx c st'=>∃ lo,c=(none,lo)/\Sok κ key D a₀ lo st'/\lo<=a₀.size/\x<=lo)
  (Q:=λc st'=>c=(none,a₀.size)/\Sok κ key D a₀ a₀.size st') ?_ ?_ ⟨0,rfl,S,aP _,ai _⟩) ?_)
 ·rintro x c st1 _ hx ⟨lo,rfl,S1,l1,l2⟩
  dsimp only
  refine fO (λg=>aF ?_) (λg=>?_)
  ·have:lo=a₀.size:=by omega
   subst this
   exact⟨rfl,S1⟩
  refine ax (CV O hD S1 (by omega) (by omega) λn st2 S2 n1 n2 sg=>?_)
  dsimp only
  have mp:=uW a₀.size a₀.size 0 (by omega)
  apply fO
  case' h1=>
   intro g2
   refine ax (kO (eB ⟨rfl,?_⟩))
   refine ax (F7 O hD S2 n1 (by omega) (by omega) sg λst3 S3 sg3=>?_)
   simp only[dg,aV,bQ]
   have n3:1<=min (a₀.size-lo) (minRun' a₀.size a₀.size 0):=by omega
   have n4:min (a₀.size-lo) (minRun' a₀.size a₀.size 0)<=a₀.size-lo:=by omega
   generalize min (a₀.size-lo) (minRun' a₀.size a₀.size 0)=m at n3 n4 sg3 ⊢
  case' h2=>
   intro g2
   have S3:=S2
   have sg3:=sg
   have n3:=n1
   have n4:=n2
   generalize n=m at n3 n4 sg3 ⊢
   generalize st2=st3 at S3 sg3 ⊢
  all_goals
   refine ax (wpS_get ?_)
   split
   ·rename_i s1 nn1 _ _
    refine ax (cN (bI (I:=λy c st'=>c=(none,())/\Sok κ key D a₀ lo st'/\mR key (arrOf st') lo m) (Q:=λc st'=>c=(none,())/\Sok κ key D a₀ lo st'/\mR key (arrOf st') lo m) ?_ (λc st' z=>z) ⟨rfl,S3,sg3⟩) ?_)
    ·rintro y c st4 _ hy ⟨rfl,S4,sg4⟩
     refine ax (wpS_get ?_)
     split
     ·rename_i q
      refine fO (λ_=>aF ⟨rfl,S4,sg4⟩) (λ_=>?_)
      have hz:1<(pendingOf st4).size:=by
       by_cases z:(pendingOf st4).size>1
       ·exact z
       ·rw[au z]at q;cases q
      refine ax (uX O hD S4 l1 (by omega) λst5 S5 _ k5=>?_)
      simp only[dg,aV,bQ]
      exact aF ⟨rfl,S5,sg4.congr λj h1 _=>k5 j h1⟩
     ·exact aF ⟨rfl,S4,sg4⟩
    rintro c st4 ⟨rfl,S4,sg4⟩
    dsimp only
    refine ax (wpS_modify (ax (wpS_modify (aF ⟨lo+m,rfl,(S4.IU _ _).push n3 sg4,by omega,by omega⟩))))
   ·exact ax (wpS_modify (aF ⟨lo+m,rfl,S3.push n3 sg3,by omega,by omega⟩))
 ·rintro c st1 ⟨lo,rfl,S1,l1,l2⟩
  have:lo=a₀.size:=by omega
  subst this
  exact⟨rfl,S1⟩
 rintro c st1 ⟨rfl,S1⟩
 dsimp only
 have pl:∀ st',Sok κ key D a₀ a₀.size st'->(pendingOf st').size<=a₀.size:=λst' S'=>by
  have:=S'.pend.le
  rw[ah]at this
  omega
 refine ax (cN (bI (I:=λx c st'=>c=(none,())/\Sok κ key D a₀ a₀.size st'/\(pendingOf st').size+x<=a₀.size+1)
  (Q:=λc st'=>c=(none,())/\Sok κ key D a₀ a₀.size st'/\(pendingOf st').size<=1) ?_ ?_ ⟨rfl,S1,by have:=pl _ S1;omega⟩) ?_)
 ·rintro x c st2 _ hx ⟨rfl,S2,p2⟩
  refine ax (wpS_get ?_)
  refine fO (λg=>aF ⟨rfl,S2,g⟩) (λg=>?_)
  refine ax (uX O hD S2 (ai _) ?_ λst5 S5 k5 _=>?_)
  ·generalize (if(pendingOf st2).size-2>0 then _ else _:Option Nat)=o
   split<;>omega
  ·simp only[dg,aV,bQ]
   exact aF ⟨rfl,S5,by omega⟩
 ·rintro c st2 ⟨rfl,S2,p2⟩
  exact⟨rfl,S2,by omega⟩
 rintro c st2 ⟨rfl,S2,p2⟩
 refine aF (h st2 S2.perm S2.fail ?_)
 have pe:=S2.pend
 have pz:(pendingOf st2).toList.length<=1:=by rw[ah];exact p2
 generalize (pendingOf st2).toList=p at pe pz
 match p,pe,pz with
 |[],pe,_=>
  have pe:0=a₀.size:=pe
  intro i j _ hj
  omega
 |[q],pe,_=>
  obtain⟨_,_,sg,e⟩:=pe
  have e:0+q.2.1=a₀.size:=e
  rw[cB]at e
  rw[<-e];exact sg
end
end TL
namespace TL
open PySem PySem.W PyProof.Rows
end TL
namespace TL
open PySem PySem.Spec PyProof.Rows L2
section
variable {X:Cx}{pins:List (Addr×Obj)}{σ:St}{H:Hp}{s:Shared}{a b:Addr}{kvs:List (List Key×V)}{k:List Key}{v:V}{r:Value}{A:Around}{E:Value->Shared->Prop}
theorem uG {x y n:Str}{i:Int}{u:Value}{k1 k2:Nat}{p1 p2 p3 p4 pos:Pos}(hg:Gl X n)(hm:X.mg n=some u)(r:RelV (.int i) u)(hi:i.natAbs.log2<1920)(hz:x.length<=1000/\y.length<=1000/\(Str.ofString (toString i)).length<=1000)
  (hd:(n==("__debug__" :Str))=false:=by decide):PE X (.JoinedStr [.Constant (.str x) k1 p1,.FormattedValue (.Name n p2) (-1) none p3,.Constant (.str y) k2 p4] pos) (λ_ H Q=>∀ z,Q (.str z) H):=by
 intro pins s σ H Q I q
 obtain⟨t,rfl⟩:=r
 have hl:∀ a b:Str,(a++b).length=a.length+b.length:=strLen_append
 have he:Str.empty.length=0:=rfl
 refine wpAny_JoinedStr ?_
 refine eQ ⟨x,_,rfl,by rw[hl,he,aM];omega,?_⟩
 refine wpAny_FormattedValue_plain (p9 (I.tok _) hg hm (wpAny_formatField_int hi ⟨_,_,rfl,by rw[hl,hl,he,aM];omega,?_⟩) hd)
 refine eQ ⟨y,_,rfl,by rw[hl,hl,hl,he,aM];omega,?_⟩
 refine⟨by rw[hl,hl,hl,he,aM];omega,⟨.str _,H,?_,⟨_,rfl⟩,q _⟩⟩
 exact I.tok _
end
noncomputable abbrev Ln:=Int×List (Int×Int)
structure o5 (l:Ln)(ns:List Int):Prop where
 ends:∀ e∈ns,0<=e/\e<2*l.1
 nd:(ns.map (· / 2)).Nodup
 ch:∀ (i:Nat) x y,ns[i]? = some x->ns[i+1]? = some y->y∈jn l.2 (oth x)
variable {l:Ln}{e:Int}
theorem EB (ok:ij l){x:Int} :x∈jn l.2 e↔(min e x,max e x)∈l.2:=by
 unfold jn
 rw[Fj,aJ]
 constructor
 ·rintro(z |z)
  ·obtain⟨p,hp,rfl⟩:=aH.mp z
   obtain⟨h1,h2⟩:=bV.mp hp
   have h2:p.2=e:=by simpa using h2
   have:=ok.ends p h1
   have e1:(min e p.1,max e p.1)=p:=Prod.ext (by show min e p.1=p.1;omega) (by show max e p.1=p.2;omega)
   rw[e1];exact h1
  ·obtain⟨p,hp,rfl⟩:=aH.mp z
   obtain⟨h1,h2⟩:=bV.mp hp
   have h2:p.1=e:=by simpa using h2
   have:=ok.ends p h1
   have e1:(min e p.2,max e p.2)=p:=Prod.ext (by show min e p.2=p.1;omega) (by show max e p.2=p.2;omega)
   rw[e1];exact h1
 ·intro h
  by_cases hx:e<=x
  ·have e1:(min e x,max e x)=(e,x):=Prod.ext (by show min e x=e;omega) (by show max e x=x;omega)
   rw[e1]at h
   exact .inr (aH.mpr ⟨(e,x),bV.mpr ⟨h,by simp⟩,rfl⟩)
  ·have e1:(min e x,max e x)=(x,e):=Prod.ext (by show min e x=x;omega) (by show max e x=e;omega)
   rw[e1]at h
   exact .inl (aH.mpr ⟨(x,e),bV.mpr ⟨h,by simp⟩,rfl⟩)
theorem BE (ok:ij l){x:Int}(h:x∈jn l.2 e):e∈jn l.2 x:=by
 rw[EB ok]at h ⊢
 rw[show min x e=min e x by omega,show max x e=max e x by omega];exact h
theorem vi (ok:ij l){x:Int}(h:x∈jn l.2 e):0<=x/\x<2*l.1:=by
 have:=ok.ends _ ((EB ok).mp h)
 dsimp only at this
 omega
variable {ns:List Int}
theorem yp {x:Int}(h:x∈fr l ns e):x∈jn l.2 e/\x/2∉ns.map (· / 2):=by
 obtain⟨h1,h2⟩:=bV.mp h
 exact⟨h1,by simpa using h2⟩
theorem o5.on (ok:ij l)(T:o5 l ns)(hne:ns≠ [])(he:e∈fr l ns (oth (ns.getLastD 0))):o5 l (ns.drop 1 ++ [e]):=by
 obtain⟨h1,h2⟩:=yp he
 have hl:1<=ns.length:=by cases ns with |nil=>exact absurd rfl hne |cons x r=>simp
 refine⟨λx hx=>?_,?_,λi x y hx hy=>?_⟩
 ·rcases aJ.mp hx with z |z
  ·exact T.ends x (cU z)
  ·have z:x=e:=by simpa using z
   rw[z];exact vi ok h1
 ·rw[aX,cS]
  refine⟨by rw[dY];exact T.nd.sublist (List.drop_sublist _ _),by simp,λa ha b hb z=>?_⟩
  have hb:b=e/2:=by simpa using hb
  rw[dY]at ha
  exact h2 (by rw[<-hb,<-z];exact cU ha)
 ·have ld:(ns.drop 1).length=ns.length-1:=bC
  by_cases hi:i+1<(ns.drop 1).length
  ·rw[ba hi,bE]at hy
   rw[ba (by omega),bE]at hx
   exact T.ch (1+i) x y hx (by rw[<-hy];congr 1)
  ·have hlt:=(af.mp hy).1
   rw[aU,dF]at hlt
   have e1:i+1=(ns.drop 1).length:=by omega
   rw[e1,bf (ai _),cP]at hy
   cases hy
   rw[ba (by omega),bE]at hx
   have e2:ns.getLastD 0=x:=by
    rw[eL,List.getLast?_eq_getElem?,show ns.length-1=1+i by omega,hx];rfl
   rw[e2]at h1
   exact h1
theorem o5.back (ok:ij l)(T:o5 l ns)(hne:ns≠ [])(he:e∈fr l ns (ns.headD 0)):o5 l (oth e::ns.dropLast):=by
 obtain⟨h1,h2⟩:=yp he
 have hl:1<=ns.length:=by cases ns with |nil=>exact absurd rfl hne |cons x r=>simp
 refine⟨λx hx=>?_,?_,λi x y hx hy=>?_⟩
 ·rcases aI.mp hx with z |z
  ·rw[z]
   have:=vi ok h1
   unfold oth
   omega
  ·exact T.ends x ((List.dropLast_sublist ns).subset z)
 ·rw[bt,cA]
  refine⟨λz=>h2 ?_,?_⟩
  ·rw[D9]at z
   have:=(List.dropLast_sublist ns).map (· / 2)
   exact this.subset z
  ·exact T.nd.sublist ((List.dropLast_sublist ns).map _)
 ·cases i with
  |zero=>
   cases hx
   have hy:ns.dropLast[0]? = some y:=hy
   rw[Bv]
   have hy2:ns[0]? = some y:=by
    have:=(af.mp hy).1
    rw[List.getElem?_dropLast]at hy
    split at hy
    ·exact hy
    ·cases hy
   have e2:ns.headD 0=y:=by cases ns with |nil=>cases hy2 |cons a r=>cases hy2;rfl
   rw[e2]at h1
   exact BE ok h1
  |succ j=>
   have hx:ns.dropLast[j]? = some x:=hx
   have hy:ns.dropLast[j+1]? = some y:=hy
   rw[List.getElem?_dropLast]at hx hy
   split at hx
   ·split at hy
    ·exact T.ch j x y hx hy
    ·cases hy
   ·cases hx
theorem yc {m:Mv}(ok:ij l)(T:o5 l ns)(hne:ns≠ [])(hm:m∈mvs l ns):o5 l m.2/\m.2.length=ns.length/\m.2≠ []:=by
 have hl:1<=ns.length:=by cases ns with |nil=>exact absurd rfl hne |cons x r=>simp
 rcases aJ.mp hm with z |z
 ·obtain⟨e,he,rfl⟩:=aH.mp z
  refine⟨T.on ok hne he,?_,λe=>?_⟩
  ·simp only[onM,aU,bC,aQ,List.length_nil];omega
  ·simp[onM]at e
 ·obtain⟨e,he,rfl⟩:=aH.mp z
  refine⟨T.back ok hne he,?_,λe=>?_⟩
  ·simp only[vJ,aQ,cj];omega
  ·simp[vJ]at e
noncomputable abbrev Ent:=List Int×Option (List Int×(Str×Int))
open PySem.W
section
variable {prog:Program}{w:World}{A:Around}{E:Value->Shared->Prop}{s:Shared}
noncomputable def Ih (prog:Program)(w:World)(A:Around)(s:Shared)(vs:List Value)(kv:Value->Int):Prop:=
 ∃ κ,(∀ (E:Value->Shared->Prop) (Q:SortKind->Shared->Prop),Q κ s->wpAny (model prog w) A (keyKind' vs.toArray) Q E s)/\Orc prog w A s κ (λx=>kv x.1) (λx=>x.1∈vs)
theorem Dn (vs:List Value):∀ x∈(vs.toArray.zip vs.toArray).toList,x.1=x.2/\x.1∈vs:=by
 intro x hx
 rw[Array.toList_zip]at hx
 have:∀ l:List Value,∀ x∈l.zip l,x.1=x.2/\x.1∈l:=by
  intro l
  induction l with
  |nil=>intro x hx;simp at hx
  |cons a l ih=>
   intro x hx
   rw[List.zip_cons_cons]at hx
   rcases aI.mp hx with rfl |q
   ·exact⟨rfl,az⟩
   ·exact⟨(ih x q).1,ar _ (ih x q).2⟩
 exact this vs x hx
theorem wo {a:Addr}{vs:List Value}{n:Nat}{P:Fin->Shared->Prop}{kv:Value->Int}(ho:s.heap.get? a=some (seqObj "list" vs.toArray n))(hz:vs.length<=sizeLine)
  (hk:2<=vs.length->∀ h',(∀ b ob,b≠a->s.heap.get? b=some ob->h'.get? b=some ob)->Ih prog w A {s with heap:=h'} vs kv)
  (h:∀ ws:List Value,ws.Perm vs->ws.Pairwise (λx y=>kv x<=kv y)->P (.done (.ret .none)) {s with heap:=sortedHeap s.heap a vs ws.toArray}):
  wpAny (model prog w) A (Builtin.«list.sort» ⟨[.ref a],[]⟩) P E s:=by
 rw[list_sort_plain]
 have ha:a<s.heap.objs.size:=ay ho
 refine ae (listItems_at ho rfl ?_)
 refine ae (listUpdate_at ho rfl ?_ (by rw[aE];exact hz) (aP _))
 obtain⟨e1,ho1⟩:∃ e1,(s.heap.update a (Obj.mapSeq λ_=> #[])).get? a=some (seqObj "list" #[] e1):=⟨_,get?_update_seq ho (λ_=> #[])⟩
 refine ae (seqEpoch_at ho1 rfl ?_)
 refine ae (wpAny_newTuple ?_ (by show vs.length<=_;exact hz))
 refine ae (wpAny_newList ?_ (aP _))
 refine bh ?_
 have ho6:(((s.heap.update a (Obj.mapSeq λ_=> #[])).push (seqObj "tuple" vs.toArray 0)).push (seqObj "list" #[] 0)).get? a=some (seqObj "list" #[] e1):=ak _ (ak _ ho1)
 have keep:∀ b ob,b≠a->s.heap.get? b=some ob->(((s.heap.update a (Obj.mapSeq λ_=> #[])).push (seqObj "tuple" vs.toArray 0)).push (seqObj "list" #[] 0)).get? b=some ob:=λb ob hb e=>
  ak _ (ak _ ((Heap.SameBut.update s.heap a (Obj.mapSeq λ_=>(#[]:Array Value))).extBut b ob hb e))
 show wpAny (model prog w) A _ P E {s with heap:=((s.heap.update a (Obj.mapSeq λ_=> #[])).push (seqObj "tuple" vs.toArray 0)).push (seqObj "list" #[] 0)}
 dsimp only
 by_cases h2:vs.toArray.size<2
 ·rw[aA h2,aA h2]
  refine ae (aj ?_)
  rw[StateT.run_pure]
  refine ae (aj ?_)
  dsimp only
  refine ae (seqEpoch_at ho6 rfl ?_)
  have eo:(arrOf (SortSt.mk' general' (vs.toArray.zip vs.toArray) #[] 7 none)).map (·.2)=vs.toArray:=by
   show(vs.toArray.zip vs.toArray).map (·.2)=vs.toArray
   exact Array.map_snd_zip (ai _)
  rw[eo]
  refine ae (listUpdate_at ho6 rfl ?_ (aP _) (by rw[aE];omega))
  simp only[bne_self_eq_false,aV,bQ]
  have h2':vs.length<2:=by rw[aE]at h2;exact h2
  refine aj (h vs (List.Perm.refl _) ?_)
  match vs,h2' with
  |[],_=>exact List.Pairwise.nil
  |[_],_=>exact cK _ _
 ·rw[au h2,au h2]
  have h2':2<=vs.length:=by rw[aE]at h2;omega
  obtain⟨κ,k1,k2⟩:=hk h2' _ keep
  refine ae (k1 _ _ ?_)
  have zs:=Dn vs
  have zm:(vs.toArray.zip vs.toArray).map (·.2)=vs.toArray:=Array.map_snd_zip (ai _)
  have run:wpS (model prog w) A E {s with heap:=((s.heap.update a (Obj.mapSeq λ_=> #[])).push (seqObj "tuple" vs.toArray 0)).push (seqObj "list" #[] 0)} sortRuns' (λ_ st'=>∃ ws:List Value,(arrOf st').map (·.2)=ws.toArray/\ws.Perm vs/\ws.Pairwise (λx y=>kv x<=kv y)/\failedOf st'=none) (SortSt.mk' κ (vs.toArray.zip vs.toArray) #[] 7 none):=by
   refine DG k2 (a₀:=vs.toArray.zip vs.toArray) (λx hx=>(zs x hx).2) (st:=SortSt.mk' κ (vs.toArray.zip vs.toArray) #[] 7 none) ⟨rfl,rfl,Array.Perm.refl _,rfl⟩ rfl rfl λst' pm hf sg=>?_
   have pl:=cV.mp pm
   refine⟨(arrOf st').toList.map (·.2),by rw[<-Array.toList_inj];simp,?_,?_,hf⟩
   ·have:=pl.map (·.2)
    rw[<-Array.toList_map (xs:=vs.toArray.zip vs.toArray),zm]at this
    exact this
   ·rw[ck]
    refine bD.mpr λi j hi hj hij=>?_
    have zz:(arrOf st').size=(vs.toArray.zip vs.toArray).size:=by have:=pl.length_eq;rw[ah,ah]at this;exact this
    rw[ah]at hi hj
    have:=sg i j (by omega) (by omega)
    rw[cB,cB,iN (aS hi),iN (aS hj)]at this
    have x1:=(zs _ (pl.mem_iff.mp (dQ (show i<(arrOf st').toList.length by rw[ah];exact hi)))).1
    have x2:=(zs _ (pl.mem_iff.mp (dQ (show j<(arrOf st').toList.length by rw[ah];exact hj)))).1
    rw[<-x1,<-x2]
    exact this
  refine ae (aY run ?_ λ_ _ e=>e)
  rintro⟨⟨⟩,st'⟩ s' ⟨rfl,ws,OH,hp,hs,hf⟩
  dsimp only
  rw[OH]
  refine ae (seqEpoch_at ho6 rfl ?_)
  refine ae (listUpdate_at ho6 rfl ?_ (aP _) (by rw[aE,hp.length_eq];omega))
  rw[hf]
  simp only[bne_self_eq_false,aV,bQ]
  exact aj (h ws hp hs)
theorem Av {l:Addr}{vs:List Value}{Q:Value->Shared->Prop}{kv:Value->Int}(hl:s.heap.IsList l vs.toArray)(hz:vs.length<=sizeLine)
  (hk:2<=vs.length->∀ h',(∀ b ob,s.heap.get? b=some ob->h'.get? b=some ob)->Ih prog w A.in1.in1 {s with heap:=h'} vs kv)
  (h:∀ ws:List Value,ws.Perm vs->ws.Pairwise (λx y=>kv x<=kv y)->Q (.ref (s.heap.objs.size+1)) {s with heap:=sortedAll s.heap vs ws.toArray}):
  wpAny (model prog w) A (call (.builtin "sorted") [.ref l]) Q E s:=by
 refine Calls.call_function_entry kind_sorted plain_sorted entry_sorted (args_sorted1 _) ?_
 unfold Builtin.«sorted»
 refine ae (m:=checkCount "sorted" 1 1 _) (aj ?_)
 refine ae (collect_list hl ?_ hz)
 refine ae (wpAny_newList ?_ hz)
 have hsz:((s.heap.push (seqObj "list" #[] 0)).update s.heap.objs.size (Obj.mapSeq (· ++ vs.toArray))).objs.size=s.heap.objs.size+1:=by
  rw[Heap.size_update,size_push']
 have hoL:(((s.heap.push (seqObj "list" #[] 0)).update s.heap.objs.size (Obj.mapSeq (· ++ vs.toArray))).push (seqObj "list" vs.toArray 0)).get? (s.heap.objs.size+1)=some (seqObj "list" vs.toArray 0):=by
  rw[<-hsz];exact aR _ rfl
 have keep:∀ b o,s.heap.get? b=some o->(((s.heap.push (seqObj "list" #[] 0)).update s.heap.objs.size (Obj.mapSeq (· ++ vs.toArray))).push (seqObj "list" vs.toArray 0)).get? b=some o:=λb o q=>by
  have hlt:b<s.heap.objs.size:=ay q
  rw[Heap.get?_push_ne _ _ _ (by rw[hsz];exact aK (Nat.lt_succ_of_lt hlt)),Heap.get?_update_ne _ _ _ _ (aK hlt),Heap.get?_push_ne _ _ _ (aK hlt)]
  exact q
 show wpAny _ _ _ _ _ {s with heap:=((s.heap.push (seqObj "list" #[] 0)).update s.heap.objs.size (Obj.mapSeq (· ++ vs.toArray))).push (seqObj "list" vs.toArray 0)}
 rw[hsz]
 have Jj:∀ h':Heap,(∀ b ob,b≠s.heap.objs.size+1->(((s.heap.push (seqObj "list" #[] 0)).update s.heap.objs.size (Obj.mapSeq (· ++ vs.toArray))).push (seqObj "list" vs.toArray 0)).get? b=some ob->h'.get? b=some ob)->∀ b ob,s.heap.get? b=some ob->h'.get? b=some ob:=λh' k b ob e=>
  k b ob (λz=>cf b (aT (ay e) (by rw[z];exact Nat.le_succ _))) (keep b ob e)
 refine ae (bh (wpAny_call_entry slot_list_sort ⟨_,hoL,rfl⟩ entry_list_sort (wo (kv:=kv) hoL hz (λh2 h' k=>hk h2 h' (Jj h' k)) λws a1 a2=>⟨_,rfl,?_⟩) (args_list_sort _)))
 exact aj ⟨_,rfl,h ws a1 a2⟩
end
noncomputable def kvI:Value->Int
 |.int n _=>n
 |_=>0
theorem ints_of:∀ {ns:List Int}{its:List Value},Vals (ns.map V.int) its->(∀ v∈its,∃ t,v = .int (kvI v) t)/\its.map kvI=ns
 |[],its,r=>by cases r;exact⟨λv hv=>by(cases hv),rfl⟩
 |n::ns,its,r=>by
  cases r with
  |cons r1 r2=>
   obtain⟨h1,h2⟩:=ints_of r2
   obtain⟨t,rfl⟩:=r1
   refine⟨λv hv=>?_,by rw[bt,h2];rfl⟩
   rcases aI.mp hv with rfl |q
   ·exact⟨_,rfl⟩
   ·exact h1 v q
theorem qH:∀ {its:List Value},(∀ v∈its,∃ t,v = .int (kvI v) t)->Vals ((its.map kvI).map V.int) its
 |[],_=>.nil
 |v::its,h=>by
  obtain⟨t,e⟩:=h v az
  refine .cons ?_ (qH λu hu=>h u (ar _ hu))
  rw[e];exact⟨t,rfl⟩
theorem EZ {prog:Program}{w:World}{A:Around}{s:Shared}{its:List Value}(rv:Vals (ns.map V.int) its)(h2:2<=its.length):Ih prog w A s its kvI:=by
 obtain⟨h1,_⟩:=ints_of rv
 have ia:=intsAre_of rv
 refine⟨oneType',λE Q hq=>?_,λx y hx hy Q hq=>?_⟩
 ·match its,h2,ia with
  |a::b::r,_,ia=>
   rw[keyKind_ints ia]
   exact aj hq
 ·obtain⟨t,ex⟩:=h1 _ hx
  obtain⟨u,ey⟩:=h1 _ hy
  dsimp only at hq
  rw[keyLt'_oneType,ex,ey]
  exact oneLt_int hq
section
variable {X:Cx}
theorem yw:jN X (.builtin "sorted") (λxs H Q=>∃ a ns,xs = [.ref a]/\SqL X.K H a (ns.map V.int)/\∀ p,H p=none->Q (.ref p) (upd H p (.lst ((srt ns).map V.int)))):=by
 intro pins s σ H xs us Q I r h
 obtain⟨a,ns,rfl,hx,q⟩:=h
 obtain⟨u,rfl,ru⟩:=vals1 r
 cases ru
 obtain⟨its,rv,p,hz⟩:=I.list hx
 have hlen:=rv.length
 rw[aa]at hlen hz
 obtain⟨iv,im⟩:=ints_of rv
 refine Av (kv:=kvI) p.isList (by omega) (λh2 h' _=>EZ rv h2) λws pm sp=>?_
 have e':ws.map kvI=srt ns:=Dy (by rw[<-im];exact pm.map _) (ck.mpr sp)
 obtain⟨e,he⟩:=sortedAll_at s.heap its ws.toArray
 have vo:Vals ((srt ns).map V.int) ws:=by rw[<-e'];exact qH λv hv=>iv v (pm.mem_iff.mp hv)
 refine⟨.ref (s.heap.objs.size+1),_,I.laid (t':=s.toks) (o:=.lst ((srt ns).map V.int)) (λb ob q=>sortedAll_old q) (Nat.le_succ _) ⟨?_,ws,e,vo,?_⟩,rfl,q _ (I.hok.fresh (Nat.le_succ _))⟩
 ·rw[aa,nY];exact hz
 ·rw[he]
end
theorem rC {X:Cx}{K:PySem.W.Frag}(eK:X.K=K):jN X (.builtin "sorted") (λxs H Q=>∃ a ns,xs = [.ref a]/\SqL K H a (ns.map V.int)/\ns.length<1000/\∀ p,H p=none->Q (.ref p) (upd H p (.lst ((srt ns).map V.int)))):=by
 subst eK
 intro pins s σ H xs us Q I r h
 obtain⟨a,ns,e,hx,_,q⟩:=h
 exact yw pins s σ H xs us Q I r ⟨a,ns,e,hx,q⟩
theorem wm {e:Value}{env env':Env}(h:env.frame=env'.frame):noteFrame e env=noteFrame e env':=by
 unfold noteFrame PySem.frameOf
 rw[h]
structure FlH (P:Program)(w:World)(base:Heap)(l:List Env)(H H1:Hp)(h0:Heap)(e C L:Addr)(B h:Heap):Prop extends Fl0 P w base l H H1 h0 B h where
 held:∃ a0,Heap.HeldW B l e (.ref C) a0 L h
section
variable {X:Cx}{pins:List (Addr×Obj)}{σ:St}{H H1:Hp}{s s':Shared}{e C:Addr}{B:Heap}
theorem D7 {M:Model}{E:Value->Shared->Prop}{Q:Unit->Shared->Prop}(I:Inv X pins σ H s)(hst:X.stack=X.env::X.outer)(hf:X.env.frame=some X.env.locals)(hex:X.ex = [])
  (ho:s'.os=s.os) (hg:AllBare s'.gens) (x:FlH X.prog X.w X.base X.stack H H1 s.heap e C X.env.locals B s'.heap) (hQ:∀ B h'',Fl X.prog X.w X.base X.outer X.H₀ H1 X.s₀.heap e C B h''->Q () {s' with heap:=h''}):
  wpAny M X.A (leaving X.env (.ref e)) Q E s':=by
 obtain⟨a0,f⟩:=x.held
 have J:Inv X pins σ H1 s':=I.E2 (ch:=[]) ho x.un (x.hok.kept f.1) hg (λb z=>absurd z (by simp))
 have nb:∀ b,b≠X.env.locals->b∉X.fs->b∉frs X.stack:=λb h1 h2 hb=>(aI.mp (I.nX b hb)).elim h1 h2
 have neL:∀ b o,X.s₀.heap.get? b=some o->b≠X.env.locals:=λb o e=>aK (aT (ay e) I.ok.above)
 have ub:Un X.fs [] X.H₀ H X.s₀.heap s.heap:=by have:=I.base;rw[hex]at this;exact this
 have uj:Un X.fs [] X.H₀ H1 X.s₀.heap s'.heap:=by have:=J.base;rw[hex]at this;exact this
 have z0:Fl0 X.prog X.w X.base X.outer X.H₀ H1 X.s₀.heap B s'.heap:=by
  refine⟨x.bas,x.hok,λb o q n hb=>x.kp b o (ub.keep b o q n hb (by simp)) (ub.free b o q n (by simp)) (nb b (neL b o q) hb),λb o q hb=>?_,uj⟩
  obtain⟨o',e1⟩:=ub.there b o q (by simp)
  exact x.thr b o' e1 (nb b (neL b o q) hb)
 rw[hst]at f
 have ff:s'.heap.FunFrames B X.outer:=f.2.2.1.2.2
 unfold leaving
 refine ae (wpAny_noteFrame_againW hf f.2.2.2 ?_)
 refine wpAny_landsW f λh'' hfl sm=>?_
 obtain⟨k1,k2,⟨_,_,k3⟩,k4⟩:=hfl
 exact hQ B h'' ⟨z0.step k1 ff k3 sm,a0,k1,k2,k3,k4⟩
end
noncomputable def BY (X:Cx)(E:XK):Prop:=X.stack=X.env::X.outer/\X.env.frame=some X.env.locals/\∀ (pins:List (Addr×Obj)) (σ:St) (H:Hp) (s s':Shared) (e C:Addr) (H1:Hp) (B:Heap),Inv X pins σ H s->s'.os=s.os->AllBare s'.gens->
 FlH X.prog X.w X.base X.stack H H1 s.heap e C X.env.locals B s'.heap->E (.ref C) (some e) H1->X.xe (.ref e) s'
theorem zg {P:Program}{w:World}{K:PySem.W.Frag}{mg:Str->Option Value}{base:Heap}{N:List Str}{qual:Str}{scope:Scope}{f:Addr}{cd:Value}{A:Around}{outer:List Env}{s₀:Shared}{H₀:Hp}{E:XK} :
  BY (wt (CXr P w base) P w K mg base N qual scope f cd A outer s₀ H₀ E) E:=
 ⟨rfl,rfl,λpins σ H s s' e C H1 B I ho hg x q=>D7 I rfl rfl rfl ho hg x λB' h'' z'=>⟨e,C,H1,B',rfl,ho.trans I.os,hg,z',q⟩⟩
section
variable {prog:Program}{w:World}{A:Around}{R:Result->Shared->Prop}{s:Shared}{XE:Value->Shared->Prop}
theorem yu {elt target iter:Expr}{ifs:List Expr}{scope:Scope}{pos:Pos}{it acc:Value}{env:Env}(I:Nat->Shared->Prop)(err:∀ x s',XE x s'->notedBy (model prog w) A env (λx s''=>R (.error x) s'') x s')
  (turn:∀ n s,I n s->wpAny (model prog w) A (pyNext it) (λr s₁=>match r with
   |none=>R (.ok .next) s₁
   |some v=>wpAny (model prog w) A (letOwnedTupleGo target it v) (λ_ s₀=>wpAny (model prog w) A (assign target env v) (λ_ s₂=>
     wpAny (model prog w) A (t6 ifs env) (λok s₃=>
      if ok=true then wpAny (model prog w) A (eval elt env) (λx s₄=>
       wpAny (model prog w) A (call (.builtin "list.append") [acc,x]) (λ_ s₅=>∃ m,m<n/\I m s₅) XE s₄) XE s₃
      else ∃ m,m<n/\I m s₃) XE s₂) XE s₀) XE s₁) XE s)
  (n:Nat) (h:I n s):
  codeAny (model prog w) A (.compLoop (.ListComp elt [⟨target,iter,ifs,0⟩] scope pos) 0 it acc env) R s:=by
 refine codeAny_loop rfl I (λn s hI=>?_) n h
 show wpAny _ A ((compTurn (.ListComp elt [⟨target,iter,ifs,0⟩] scope pos) 0 it acc env).onRaise (λx=>do noteFrame x env;theTreesLotGoes x)) _ _ s
 refine wpAny_noted ?_
 rw[compTurn_list]
 refine ae (cm (ae (aY (turn n s hI) (λr s₁ h₁=>?_) err)))
 cases r with
 |none=>exact aj h₁
 |some v=>
  refine ae (aY h₁ (λ_ s₀ h₀=>?_) err)
  refine ae (aY h₀ (λ_ s₂ h₂=>ae (aY h₂ (λok s₃ h₃=>?_) err)) err)
  cases ok with
  |false=>exact aj ⟨rfl,h₃⟩
  |true=>
   exact ae (ae (aY h₃ (λx s₄ h₄=>ae (aY h₄ (λ_ s₅ h₅=>aj (aj ⟨rfl,h₅⟩)) err)) err))
end
section
variable {M:Model}{A:Around}{E:Value->Shared->Prop}{s:Shared}{env:Env}
noncomputable def qc (M:Model)(A:Around)(E:Value->Shared->Prop)(Q:Value->Shared->Prop)(acc:Value)(cenv:Env)(r:Result)(s':Shared):Prop:=
 match r with
 |.ok _=>∃ m,s'.heap.Ns cenv.locals m/\∀ h',Heap.SameBut cenv.locals s'.heap h'->Q acc {s' with heap:=h'}
 |.error x=>∃ m,s'.heap.Ns cenv.locals m/\∀ h',Heap.SameBut cenv.locals s'.heap h'->wpAny M A (passOn "comprehension.variables-let-go" x cenv:Sem Value) (λ_ _=>False) E {s' with heap:=h'}
theorem ql {e:Expr}{scope:Scope}{pos:Pos}{Ed first:Sem Value}{g:Comprehension}{gs:List Comprehension}{cl:List (Str×Addr)}{Q:Value->Shared->Prop}
  (hcl:clausesOf e=g::gs) (hs:∀ x,foldedSetIterable g.iter env x=pure x) (JA:closureFor scope env=pure cl)
  (BG:scope.kind = .function) (HF:∀ x∈scope.names,x.2 = .local->scope.names.lookup x.1=some .local)
  (h:wpAny M A first (λx s₁=>wpAny M A (pyIter x) (λit s₂=>wpAny M A Ed (λacc s₃=>
   wpAny M A (newFunctionEnv scope env.globals cl [] env.qual none .none (some env)) (λcenv s₄=>
    codeAny M A (.compStart e 0 it acc {cenv with scope:=relabel scope env}) (qc M A E Q acc {cenv with scope:=relabel scope env}) s₄) E s₃) E s₂) E s₁) E s):
  wpAny M A (comprehension e scope env pos Ed false first none) Q E s:=by
 unfold comprehension
 rw[JA,hcl]
 refine ae (aY h (λx s₁ h₁=>ae (cm (ae (wpAny_of_eq (hs x) (ae (bh (aY h₁ (λit s₂ h₂=>
  wpAny_standIf (ae (aY h₂ (λacc s₃ h₃=>ae (aj (ae (aY h₃ (λcenv s₄ h₄=>?_) λ_ _ h'=>h')))) λ_ _ h'=>h')))
   λ_ _ h'=>h'))))))) λ_ _ h'=>h')
 dsimp only
 have hv:∀ x∈(scope.names.filter λx=>(x.2 == .local||x.2 == .cell)&&x.1 !=(".0" :Str)).reverse,x.2 = .local->
   Env.kindOf {cenv with scope:=relabel scope env} x.1=some .local:=λx hx hl=>lookup_relabel_local (HF x (bV.mp (cX.mp hx)).1 hl)
 refine bh (ae (wpAny_attempt (bh (wpAny_run (eP h₄ λr s' hr=>?_)))))
 cases r with
 |ok f=>
  obtain⟨m,hn,hr⟩:=hr
  exact ae (bh (wpAny_comp_letGo (cenv:={cenv with scope:=relabel scope env}) BG _ s' m hv hn λh' m' _ hs'=>aj (hr h' hs')))
 |error x=>
  obtain⟨m,hn,hr⟩:=hr
  exact ae (bh (wpAny_comp_letGo (cenv:={cenv with scope:=relabel scope env}) BG _ s' m hv hn λh' m' _ hs'=>aY (hr h' hs') (λ_ _ f=>f.elim) λ_ _ y=>y))
end
theorem rn {h h' base GJ:Heap}(k:∀ b,base.get? b=none->GJ.get? b=none):∀ {l:List Env},h.FunFrames base l->(∀ b∈frs l,h'.get? b=h.get? b)->h'.FunFrames GJ l
 |[],_,_=>trivial
 |env::r,⟨hk,⟨L,o,hf,hn,ho,hd⟩,hr⟩,hs=>by
  have hL:L∈frs (env::r):=by unfold frs;rw[cu,hf];exact az
  refine⟨hk,⟨L,o,hf,k L hn,(hs L hL).trans ho,hd⟩,rn k hr λb hb=>hs b ?_⟩
  unfold frs at hb ⊢
  rw[cu,hf]
  exact ar _ hb
theorem oU {M:Model}{A:Around}{E:Value->Shared->Prop}{s:Shared}{base:Heap}{l:List Env}{e L:Addr}{cls a0:Value}{Q:Unit->Shared->Prop}(R:Heap.HeldW base l e cls a0 L s.heap)
  (h:∀ h',Heap.HeldW base l e cls a0 L h'->s.heap.UpToSlots h'->Q () {s with heap:=h'}):wpAny M A (setFlight (.ref e) (some L)) Q E s:=by
 obtain⟨hkb,hen,hl,oe,vs,T,oT,ts,he,EF,hd,h1,hnT,hTe,hT,hdT,h3⟩:=R
 have Jo:3<ts.size:=(bA.mp h3).1
 have other:∀ b,b≠T->(s.heap.update T (Obj.mapFields (·.setIfInBounds 3 ((some L).elim Value.none λf=>rawInt f)))).get? b=s.heap.get? b:=
  λb hb=>Heap.get?_update_other _ _ (bX hb)
 have zD:∀ b o,s.heap.get? b=some o->(∀ vs,o.data≠ .fields vs)->b≠T:=λb o hb hnf q=>by
  rw[q,hT]at hb;injection hb with hb;subst hb;exact hnf ts hdT
 unfold setFlight
 refine ae (wpAny_field he hd h1 ?_)
 rw[aA (show(Value.ref T !=Value.none)=true from by simp)]
 refine wpAny_setField hT hdT Jo (h _ ⟨λb o hbo=>(other b λq=>by rw[q,hnT]at hbo;cases hbo).trans (hkb b o hbo),hen,
  hl.of_keeps λb o hb hnf=>⟨o,(other b (zD b o hb hnf)).trans hb,rfl⟩,?_⟩ λb o hb hnf=>⟨o.slots,(other b (zD b o hb hnf)).trans hb⟩)
 exact⟨oe,vs,T,_,_,(other e (bX hTe)).trans he,EF,hd,h1,hnT,hTe,Heap.get?_update_self _ hT (Obj.isFreed_of_fields (Obj.data_mapFields hdT _)),Obj.data_mapFields hdT _,by simp[Jo]⟩
theorem xS {M:Model}{A:Around}{E:Value->Shared->Prop}{s:Shared}{base:Heap}{l:List Env}{env:Env}{Il:String}{e L:Addr}{cls a0:Value}{Q:Value->Shared->Prop}(R:Heap.HeldW base l e cls a0 L s.heap)(hf:env.frame=some L)
  (h:∀ h',Heap.HeldW base l e cls a0 L h'->s.heap.UpToSlots h'->E (.ref e) {s with heap:=h'}):wpAny M A (passOn Il (.ref e) env:Sem Value) Q E s:=by
 obtain⟨_,_,_,oe,vs,T,oT,ts,he,_,hd,h1,_⟩:=id R
 unfold PySem.passOn
 refine ae (wpAny_field he hd h1 ?_)
 rw[au (show ¬((Value.ref T==Value.none)=true) from by simp),hf]
 first
  |exact ae (oU R λh' hh sm=>wpAny_throw (h h' hh sm))
  |exact ae (aj (ae (oU R λh' hh sm=>wpAny_throw (h h' hh sm))))
section
variable {X:Cx}{pins:List (Addr×Obj)}{σ:St}{H H3:Hp}{s s3:Shared}{scope:Scope}{N:List Str}{own:Nat}{cap:List (Option Nat)}{cl:List (Str×Addr)}{fp:List Addr}{E:XK}
noncomputable def XC (X:Cx)(scope:Scope)(cl:List (Str×Addr))(N:List Str)(fp:List Addr)(s3:Shared)(H3:Hp)(E:XK):Value->Shared->Prop:=λev s'=>∃ (tm:List (Addr×Obj)) (σ':St) (H':Hp) (s0:Shared),Inv (gK X scope cl N fp s3 H3) tm σ' H' s0/\CXr X.prog X.w X.base X.stack H' s0 E ev s'
noncomputable abbrev jC (X:Cx)(scope:Scope)(cl:List (Str×Addr))(N:List Str)(fp:List Addr)(s3:Shared)(H3:Hp)(E:XK):Cx:=(gK X scope cl N fp s3 H3).tP (XC X scope cl N fp s3 H3 E)
theorem tw:Passes (CXr X.prog X.w X.base) (jC X scope cl N fp s3 H3 E) E:=λpins σ H s e s' I hx=>⟨pins,σ,H,s,I.m9,hx⟩
theorem A3 {ev:Value}{s':Shared}{acc:Value}{Q:Value->Shared->Prop}(I3:Inv X pins σ H3 s3)(f3:∀ b∈fp,nC X pins H3 b)(pH:BY X E)(hx:XC X scope cl N fp s3 H3 E ev s'):
  notedBy (model X.prog X.w) X.A (compEnvC scope cl s3.heap.objs.size X.env) (λx s''=>qc (model X.prog X.w) X.A X.xe Q acc (compEnvC scope cl s3.heap.objs.size X.env) (.error x) s'') ev s':=by
 obtain⟨tm,σ',H',s0,I',e,C,H1,B,rfl,ho,hg,z,q⟩:=hx
 have J:Inv X pins σ H' s0:=comp_back I3 f3 I'
 obtain⟨hst,hfr,pass⟩:=pH
 obtain⟨a0,fl⟩:=z.fly
 have hF:X.A.frames=some (X.env::X.outer):=by rw[<-hst];exact J.ok.frames
 unfold notedBy
 rw[wm (env:=compEnvC scope cl s3.heap.objs.size X.env) (env':=X.env) rfl]
 have fl':=fl
 rw[hst]at fl'
 refine wpAny_looks_onW hF hfr fl' λh1 held sm=>?_
 rw[<-hst]at held
 have hCs:s3.heap.objs.size∉frs X.stack:=λhm=>by
  obtain⟨_,o,ho,_⟩:=I3.stack.mem hm
  exact absurd (ay ho) (cf _)
 obtain⟨m,hns,_⟩:=I'.loc
 have hns:s0.heap.Ns s3.heap.objs.size m:=hns
 obtain⟨oC,es,ep,hoC,hdC,hrC⟩:=id hns
 have hfC:H' s3.heap.objs.size=none:=I'.free
 have hC':=z.un.keep _ oC hoC hfC hCs (by simp)
 have OK:s'.heap.Ns s3.heap.objs.size m:=⟨oC,es,ep,hC',hdC,hrC⟩
 have Jt:=sm.ns OK
 have hH1:H1 s3.heap.objs.size=none:=z.un.free _ oC hoC hfC (by simp)
 refine⟨m,Jt,λh' sb=>?_⟩
 have z1:Fl0 X.prog X.w X.base X.stack H' H1 s0.heap B h1:=z.toFl0.step held.1 fl.2.2.1 held.2.2.1 sm
 have sbn:∀ b,b≠s3.heap.objs.size->h'.get? b=h1.get? b:=sb.2
 have hid:∀ (g:Heap) b o,(g.hide s3.heap.objs.size).get? b=some o->g.get? b=some o/\b≠s3.heap.objs.size:=λg b o q=>⟨Heap.of_hide q,λe=>by rw[e,Heap.hide_self]at q;cases q⟩
 have toh:∀ (g:Heap) b o,b≠s3.heap.objs.size->g.get? b=some o->(g.hide s3.heap.objs.size).get? b=some o:=λg b o hb q=>(Heap.hide_ne g hb).trans q
 have z2:Fl0 X.prog X.w X.base X.stack H' H1 (s0.heap.hide s3.heap.objs.size) (B.hide s3.heap.objs.size) h':=by
  refine⟨λb o q=>toh B b o (aK (ay (I3.bk b o q))) (z1.bas b o q),λb u q=>(z1.hok b u q).qi (λc v hc zc=>toh B c v (λe=>?_) zc) (λ_ z=>z) (λ_ _ z=>z),λb o q n hb=>?_,λb o q hb=>?_,?_⟩
  ·rcases hc with r |r
   ·rw[<-r,e,hH1]at q;cases q
   ·rw[e,hH1]at r;cases r
  ·obtain⟨q1,q2⟩:=hid _ b o q
   exact toh B b o q2 (z1.kp b o q1 n hb)
  ·obtain⟨q1,q2⟩:=hid _ b o q
   obtain⟨o',e'⟩:=z1.thr b o q1 hb
   exact⟨o',toh B b o' q2 e'⟩
  ·refine⟨λb o q n hb hx=>?_,λb o q n hb hx=>?_,λb o q n hx=>z1.un.free b o (hid _ b o q).1 n hx,λb o q hx=>?_,z1.un.qs,z1.un.qk,z1.un.qt⟩
   ·obtain⟨q1,q2⟩:=hid _ b o q
    exact(sbn b q2).trans (z1.un.keep b o q1 n hb hx)
   ·obtain⟨q1,q2⟩:=hid _ b o q
    obtain⟨sl,e'⟩:=z1.un.slot b o q1 n hb hx
    exact⟨sl,(sbn b q2).trans e'⟩
   ·obtain⟨q1,q2⟩:=hid _ b o q
    obtain⟨o',e'⟩:=z1.un.there b o q1 hx
    exact⟨o',(sbn b q2).trans e'⟩
 have Jb:∀ b o vs,h1.get? b=some o->o.data = .fields vs->b≠s3.heap.objs.size:=λb o vs q d e=>by
  obtain⟨o2,es2,ep2,h2,d2,_⟩:=Jt
  rw[e,h2]at q
  cases q
  rw[d2]at d
  cases d
 have GA:Heap.HeldW (B.hide s3.heap.objs.size) X.stack e (.ref C) a0 X.env.locals h':=by
  obtain⟨k1,k2,k3,oe,vs,T,oT,ts,he,hc,hd,h1',hnT,hTe,hT,hdT,h3⟩:=held
  have sr:∀ b,B.get? b=none->(B.hide s3.heap.objs.size).get? b=none:=λb hb=>by
   cases q:(B.hide s3.heap.objs.size).get? b with
   |none=>rfl
   |some o=>have:=(hid B b o q).1;rw[hb]at this;cases this
  refine⟨λb o q=>?_,sr _ k2,rn sr k3 λb hb=>sbn b λe=>hCs (e ▸ hb),oe,vs,T,oT,ts,(sbn e (Jb e oe vs he hd)).trans he,hc,hd,h1',sr _ hnT,hTe,(sbn T (Jb T oT ts hT hdT)).trans hT,hdT,h3⟩
  obtain⟨q1,q2⟩:=hid B b o q
  exact(sbn b q2).trans (k1 b o q1)
 refine xS (s:={s' with heap:=h'}) (base:=B.hide s3.heap.objs.size) (l:=X.stack) GA hfr λh'' hh sm'=>?_
 have z3:Fl0 X.prog X.w X.base X.stack H' H1 (s0.heap.hide s3.heap.objs.size) (B.hide s3.heap.objs.size) h'':=z2.step hh.1 GA.2.2.1 hh.2.2.1 sm'
 have IJ:Inv X pins σ H' {s0 with heap:=s0.heap.hide s3.heap.objs.size} :=nN J (TL.Inv.apart I3) hfC ⟨Heap.hide_size _ _,λb hb=>Heap.hide_ne _ hb⟩
 exact pass pins σ H' _ {s' with heap:=h''} e C H1 (B.hide s3.heap.objs.size) IJ ho hg ⟨z3,a0,hh⟩ q
end
section
variable {X:Cx}{pins:List (Addr×Obj)}{σ:St}{H1:Hp}{s2:Shared}{scope:Scope}{N:List Str}{own:Nat}{cap:List (Option Nat)}{cl:List (Str×Addr)}{fp:List Addr}
 {tg iter elt:Expr}{ifs:List Expr}{pos:Pos}{g:TG}{tt:TT}{te:TE}{wi:TI}{E:XK}
theorem CW {it:Addr}{tn:Nat->Heap->Prop}{J:It}{Q:VK}{Q2:Value->Shared->Prop}{E0:Value->Shared->Prop}(pH:BY X E)(I:Inv X pins σ H1 s2)(T:Turn X.prog X.w X.K tg J fp it tn)(t0:tn 0 s2.heap)
  (f:∀ b∈fp,nC X pins H1 b) (hc:X.calm=true) (C:gq X.env.scope X.N scope N own cap) (ho:t5 own g)
  (mG:∀ x c,cl.lookup x=some c->X.env.cells.lookup x=some c) (qj:∀ y∈scope.names,y.2 = .free->∃ c,cl.lookup y.1=some c)
  (hg:∀ s3 H3,PG (jC X scope cl N fp s3 H3 E) tg g) (ht:∀ s3 H3,yD (jC X scope cl N fp s3 H3 E) ifs tt) (he:∀ s3 H3,PE (jC X scope cl N fp s3 H3 E) elt te)
  (hw:∀ l,H1 l=none->LcW J g tt te cap σ Q l H1)
  (fin:∀ l C s' H',Inv X pins σ H' s'->H' C=none->Apart X pins C->Q (.ref l) H'->∀ h',Heap.SameBut C s'.heap h'->Q2 (.ref l) {s' with heap:=h'}):
  wpAny (model X.prog X.w) X.A (newList []) (λacc s₃=>wpAny (model X.prog X.w) X.A (newFunctionEnv scope X.env.globals cl [] X.env.qual none .none (some X.env)) (λcenv s₄=>
   codeAny (model X.prog X.w) X.A (.compStart (.ListComp elt [⟨tg,iter,ifs,0⟩] scope pos) 0 (.ref it) acc {cenv with scope:=relabel scope X.env}) (qc (model X.prog X.w) X.A X.xe Q2 acc {cenv with scope:=relabel scope X.env}) s₄) E0 s₃) E0 s2:=by
 refine wpAny_newObj_type (wpAny_newFunctionEnv C.yb (by intro y hy;simp at hy) (λh₁ mF mE=>?_) C.kind)
 dsimp only at mF mE ⊢
 obtain⟨W,⟨m0,w0⟩,turn⟩:=hw s2.heap.objs.size I.fresh
 have I3:Inv X pins σ (upd H1 s2.heap.objs.size (.lst [])) {s2 with heap:=s2.heap.push {cls:=.type "list",dict:=none,data:=.seq ([]:List Value).toArray}} :=I.Hr (ys:=[]) (its:=[]) (t':=s2.toks) .nil (aP _)
 generalize hs3:({s2 with heap:=s2.heap.push {cls:=.type "list",dict:=none,data:=.seq ([]:List Value).toArray}} :Shared)=s3 at I3
 have hh3:s3.heap=s2.heap.push {cls:=.type "list",dict:=none,data:=.seq ([]:List Value).toArray} :=by rw[<-hs3]
 rw[<-hh3]at mF mE ⊢
 have e4:({s2 with heap:=h₁,toks:=s2.toks+([]:List (Str×Value)).length} :Shared) = {s3 with heap:=h₁,toks:=s2.toks} :=by rw[<-hs3];rfl
 rw[e4]
 have k4:∀ b u,s3.heap.get? b=some u->h₁.get? b=some u:=λb u e=>mE.extBut b u (aK (ay e)) (ak _ e)
 have k3:∀ b u,s2.heap.get? b=some u->s3.heap.get? b=some u:=λb u e=>by rw[hh3];exact ak _ e
 have hb2:∀ b∈fp,b<s2.heap.objs.size:=λb hb=>by obtain⟨o,e,_⟩:=T.obj _ _ t0 b hb;exact ay e
 have f3:∀ b∈fp,nC X pins (upd H1 s2.heap.objs.size (.lst [])) b:=λb hb=>by
  obtain⟨f0,fr⟩:=f b hb
  exact⟨by rw[fE (aK (hb2 b hb))];exact f0,fr⟩
 have hb3:∀ b∈fp,b<s3.heap.objs.size:=λb hb=>by obtain⟨o,e,_⟩:=T.obj _ _ t0 b hb;exact ay (k3 b o e)
 have I4:=(vp (tk:=s2.toks) I3 C mG qj (λb hb=>⟨f3 b hb,hb3 b hb⟩) mF k4).tP (XC X scope cl N fp s3 (upd H1 s2.heap.objs.size (.lst [])) E)
 generalize hH3:upd H1 s2.heap.objs.size (.lst [])=H3 at *
 have st4:tn 0 h₁:=T.keep _ _ _ t0 λb hb o e=>k4 b o (k3 b o e)
 have fpX:∀ {H':Hp},(∀ b∈fp,H' b=none)->∀ b∈fp,nC (jC X scope cl N fp s3 H3 E) [] H' b:=λ{H'} hn b hb=>by
  obtain⟨f0,f1,f2,f3',f4,f5⟩:=f3 b hb
  refine⟨hn b hb,aK (hb3 b hb),λhz=>?_,.inl hb,λx c e=>f4 x c (mG x c e),λp hp=>absurd (show p∈([]:List (Addr×Obj)) from hp) (by simp)⟩
  rcases aI.mp (I3.nX b hz)with z |z
  ·exact f1 z
  ·exact f2 z
 have loop:codeAny (model X.prog X.w) X.A (.compLoop (.ListComp elt [⟨tg,iter,ifs,0⟩] scope pos) 0 (.ref it) (.ref s2.heap.objs.size) (compEnvC scope cl s3.heap.objs.size X.env)) (qc (model X.prog X.w) X.A X.xe Q2 (.ref s2.heap.objs.size) (compEnvC scope cl s3.heap.objs.size X.env)) {s3 with heap:=h₁,toks:=s2.toks} :=by
  refine yu (XE:=XC X scope cl N fp s3 H3 E) (λn s'=>∃ i acc H',Inv (jC X scope cl N fp s3 H3 E) [] (jh cap σ) H' s'/\tn i s'.heap/\(∀ b∈fp,H' b=none)/\W i n acc H') (λx s' hx=>A3 I3 f3 pH hx) ?_ m0 ⟨0,[],H3,I4,st4,λb hb=>(f3 b hb).1,w0⟩
  rintro n s' ⟨i,acc,H',I',st,fr,w⟩
  rcases turn i n acc H' w with⟨stop,q⟩|⟨go,NN,hNN,step⟩
  ·refine thn (T.done (jC X scope cl N fp s3 H3 E) rfl rfl rfl hc i [] s' _ H' (XC X scope cl N fp s3 H3 E) I' (fpX fr) st stop) λr s5 ⟨hr,I5⟩=>?_
   subst hr
   obtain⟨m5,hn5,_⟩:=id I5.loc
   exact⟨m5,hn5,λh' sb=>fin _ _ s5 H' (comp_back I3 f3 I5.m9) I5.free (TL.Inv.apart I3) q h' sb⟩
  ·refine thn (T.item (jC X scope cl N fp s3 H3 E) rfl rfl rfl hc i [] s' _ H' (XC X scope cl N fp s3 H3 E) I' (fpX fr) st go) λr s5 ⟨u,hr,h5⟩=>?_
   subst hr
   refine thn h5 λ_ s6 ⟨x,H6,I6,r6,y6,st6,fr6⟩=>?_
   have I6':=I6.pinned (fpX fr6) (T.obj _ _ st6)
   refine thn (hg s3 H3 _ s6 _ H6 x u _ I6' r6 (ho.own _ _ _ _ (step x H6 y6))) λ_ s7 ⟨σ7,H7,I7,q7,l7,o7⟩=>?_
   have cov:∀ (i:Nat) v,(jh cap σ)[i]? = some (some v)->σ7[i]? = some (some v):=λi v e=>by
    obtain⟨j,c1,c2⟩:=qe e
    by_cases hi:i<own
    ·exact(C.uK hi c1).elim
    ·rw[o7 i (by omega)];exact e
   have back:∀ {H8:Hp}{s8:Shared},Inv (jC X scope cl N fp s3 H3 E) ([]++qx fp s6.heap) σ7 H8 s8->Inv (jC X scope cl N fp s3 H3 E) [] (jh cap σ) H8 s8/\tn (i+1) s8.heap/\∀ b∈fp,H8 b=none:=λ{H8 s8} I8=>by
    refine⟨(Inv.nE (pins:=[]) I8).weak l7.symm cov,T.keep _ _ _ st6 λb hb o e=>(I8.pin (b,o) (aL _ (aL _ (ju hb e)))).1,λb hb=>?_⟩
    obtain⟨o,e,d⟩:=T.obj _ _ st6 b hb
    exact(I8.pin (b,o) (aL _ (aL _ (ju hb e)))).2.1
   refine thn (ht s3 H3 _ s7 σ7 H7 _ I7 q7) λb s8 ⟨H8,I8,q8⟩=>?_
   cases b with
   |false=>
    rw[au aC]at q8 ⊢
    obtain⟨m',hm,w8⟩:=hNN _ _ q8
    obtain⟨J1,J2,J3⟩:=back I8
    exact⟨m',hm,i+1,acc,H8,J1,J2,J3,w8⟩
   |true=>
    rw[aA rfl]at q8 ⊢
    refine thn (he s3 H3 _ s8 σ7 H8 _ I8 q8) λv s9 ⟨y,H9,I9,r9,ha,hz,n9⟩=>?_
    obtain⟨m',hm,w9⟩:=hNN _ _ n9
    refine thn (kU _ s9 σ7 H9 (.ref s2.heap.objs.size) [y] (.ref s2.heap.objs.size) [v] (λ_ H10=>W (i+1) m' (acc ++ [y]) H10) I9 rfl (.cons r9 .nil) ⟨_,acc,y,rfl,rfl,ha,hz,w9⟩) λ_ s10 ⟨_,H10,I10,_,w10⟩=>?_
    obtain⟨J1,J2,J3⟩:=back I10
    exact⟨m',hm,i+1,acc ++ [y],H10,J1,J2,J3,w10⟩
 exact codeAny_compStart_list loop (T.self X.A 0 _ _ _ st4 loop)
theorem D5 (pH:BY X E)(hi:PI X tg iter wi)(hc:X.calm=true)(C:gq X.env.scope X.N scope N own cap)(ho:t5 own g)
  (hg:∀ cl fp s3 H3,PG (jC X scope cl N fp s3 H3 E) tg g) (ht:∀ cl fp s3 H3,yD (jC X scope cl N fp s3 H3 E) ifs tt) (he:∀ cl fp s3 H3,PE (jC X scope cl N fp s3 H3 E) elt te)
  (hs:∀ x,foldedSetIterable iter X.env x=pure x:=by intro _;rfl):PE X (.ListComp elt [⟨tg,iter,ifs,0⟩] scope pos) (tLC wi cap g tt te):=by
 intro pins s σ H Q I h
 obtain⟨cl,ecl,mG,qj⟩:=oz (scope:=scope) (env:=X.env) λy hy hf=>I.ok.has y.1 (C.fre y hy hf)
 rw[eval_ListComp]
 refine ql rfl hs ecl C.kind C.loc (thn (hi pins s σ H _ I h) λxv s1 h1=>thn h1 λitv s2 h2=>?_)
 obtain⟨it,fp,tn,J,H2,e,I2,T,st2,f2,hw⟩:=h2
 subst e
 exact CW (Q2:=EP X pins σ Q) pH I2 T st2 f2 hc C ho mG qj (hg cl fp) (ht cl fp) (he cl fp) hw λl Ca s' H' I' mZ hP q h'' AX=>⟨.ref l,H',nN I' hP mZ AX,rfl,q⟩
end
end TL
namespace TL
open PySem PySem.Spec PyProof.Rows L2
noncomputable def okJ (m:Int)(p:Int×Int):Prop:=(0<=p.1/\p.1<2*m)/\(0<=p.2/\p.2<2*m)/\p.1<=p.2/\p.1/2≠p.2/2
noncomputable def fW (l:Ln):Prop:=1<=l.1/\l.1<=40/\l.2.length<=80/\(∀ p∈l.2,okJ l.1 p)/\l.2.Nodup
end TL
namespace TL
open PySem PySem.Spec PyProof.Rows L2
noncomputable def mkS (l:List Nat):Str:=⟨l.toArray⟩
theorem uV (l:List Nat):(mkS l).cps.toList=l:=cq
theorem ye (x:Str):mkS x.cps.toList=x:=by cases x;simp[mkS]
theorem Bw (l:List Nat):(mkS l).length=l.length:=by simp[mkS,Str.length]
noncomputable abbrev TF:=St->Hp->Str->(Str->Hp->Prop)->Prop
noncomputable def PF (X:Cx)(es:List Expr)(t:TF):Prop:=
 ∀ (pins:List (Addr×Obj)) (s:Shared) (σ:St) (H:Hp) (acc:Str) (Q:Str->Hp->Prop),Inv X pins σ H s->t σ H acc Q->
  Joins (model X.prog X.w) X.A X.xe (evalEach es X.env) acc (λout s'=>∃ H',Inv X pins σ H' s'/\Q out H') s
section
variable {X:Cx}{e:Expr}{es:List Expr}{te:TE}{tf:TF}{pos:Pos}
noncomputable def tFN:TF:=λ_ H acc Q=>Q acc H
noncomputable def tFC (x:Str)(tf:TF):TF:=λσ H acc Q=>(acc++x).length<=sizeLine/\tf σ H (acc++x) Q
noncomputable def tFV (te:TE)(tf:TF):TF:=λσ H acc Q=>te σ H λv H1=>∃ y,((∃ i:Int,v = .int i/\i.natAbs.log2<1920/\y=Str.ofString (toString i))\/(v = .str y/\y.length<=sizeLine))/\(acc++y).length<=sizeLine/\tf σ H1 (acc++y) Q
theorem xQ:PF X [] tFN:=λpins s σ H acc Q I h=>⟨H,I,h⟩
theorem nK {x:Str}{k:Nat}{p:Pos}(h:PF X es tf):PF X (.Constant (.str x) k p::es) (tFC x tf):=by
 intro pins s σ H acc Q I q
 exact eQ ⟨x,_,rfl,q.1,h pins _ σ H _ Q (I.tok _) q.2⟩
theorem rW {p:Pos}(he:PE X e te)(h:PF X es tf):PF X (.FormattedValue e (-1) none p::es) (tFV te tf):=by
 intro pins s σ H acc Q I q
 show wpAny _ _ (eval (.FormattedValue e (-1) none p) X.env) _ _ s
 refine wpAny_FormattedValue_plain (thn (he pins s σ H _ I q) λu s1 ⟨v,H1,I1,r,y,hy,hz,q1⟩=>?_)
 rcases hy with⟨i,rfl,hi,rfl⟩|⟨rfl,hl⟩
 ·obtain⟨t,rfl⟩:=r
  exact wpAny_formatField_int hi ⟨_,_,rfl,hz,h pins _ σ H1 _ Q (I1.tok _) q1⟩
 ·obtain⟨t,rfl⟩:=r
  exact wpAny_formatField_str ⟨_,_,rfl,hz,h pins _ σ H1 _ Q I1 q1⟩ ⟨_,_,rfl,hz,h pins _ σ H1 _ Q (I1.tok _) q1⟩ hl
theorem t8 {v1 v2:Expr}{rest:List Expr}(h:PF X (v1::v2::rest) tf):PE X (.JoinedStr (v1::v2::rest) pos) (λσ H Q=>tf σ H Str.empty λz H1=>z.length<=sizeLine/\Q (.str z) H1):=by
 intro pins s σ H Q I q
 refine wpAny_JoinedStr ?_
 have:=h pins s σ H Str.empty (λz H1=>z.length<=sizeLine/\Q (.str z) H1) I q
 refine vf ?_ this
 rintro out s' ⟨H',I',hz,q'⟩
 exact⟨hz,.str out,H',I'.tok _,⟨_,rfl⟩,q'⟩
where
 vf {M:Model}{A:Around}{E:Value->Shared->Prop}{Q Q':Str->Shared->Prop} (hq:∀ o s,Q o s->Q' o s):∀ {parts:List (Sem Value)}{acc:Str}{s:Shared},Joins M A E parts acc Q s->Joins M A E parts acc Q' s
  |[],acc,s,h=>hq _ _ h
  |x::rest,acc,s,h=>aY h (λv s1 ⟨y,t,e,hz,h1⟩=>⟨y,t,e,hz,vf hq h1⟩) λ_ _ x=>x
end
theorem Vals.strs:∀ {ts:List Str}{its:List Value},Vals (ts.map V.str) its->∃ l:List (Str×Tok),its=strValues l/\l.map (·.1)=ts
 |[],_,.nil=>⟨[],rfl,rfl⟩
 |x::ts,_,.cons r t=>by
  obtain⟨l,rfl,e⟩:=Vals.strs t
  obtain⟨k,rfl⟩:=r
  exact⟨(x,k)::l,rfl,by rw[bt,e]⟩
theorem wC:∀ l:List (Str×Tok),Vals ((l.map (·.1)).map V.str) (strValues l)
 |[]=>.nil
 |p::l=>.cons ⟨p.2,rfl⟩ (wC l)
theorem yi {sep:Str}{ts:List Str}(h1:∀ y∈ts,y.length<=1000)(h2:ts.length<=1000)(h3:sep.length<=10):JoinOk sep ts=true:=by
 unfold JoinOk
 rw[PySem.StrLaws.joinTotal]
 have h:=PySem.StrLaws.sumLen_le ts h1
 have h4:ts.length*sep.length<=1000*10:=Nat.mul_le_mul h2 h3
 have h5:ts.length*1000<=1000*1000:=Nat.mul_le_mul_right _ h2
 unfold Builtin.Str.tooLong
 rw[aM]
 simp
 omega
section
variable {X:Cx}
theorem uc:MtR X "str.join" (λx vs H Q=>∃ sep a ts,x = .str sep/\vs = [.ref a]/\SqL X.K H a (ts.map V.str)/\(∀ y∈ts,y.length<=1000)/\ts.length<=1000/\sep.length<=10/\Q (.str (Str.join sep ts)) H):=by
 intro pins s σ H x vs v us Q I rx rv h
 obtain⟨sep,a,ts,rfl,rfl,ha,h1,h2,h3,q⟩:=h
 obtain⟨t,rfl⟩:=rx
 obtain⟨u,rfl,ru⟩:=rv.one
 cases ru
 obtain⟨its,r,p,hz⟩:=I.list ha
 obtain⟨l,rfl,e⟩:=Vals.strs r
 refine SC.join (texts:=ts) p.isList e (yi h1 h2 h3) λt' k=>⟨.str _,H,I.tok _,⟨_,rfl⟩,?_⟩
 show Q (.str (Builtin.Str.glued sep ts)) H
 rw[PySem.StrLaws.glued_eq_join]
 exact q
theorem split_len (z y:Str)(hy:1<=y.length):(Txt.split z y).length<=z.length+1/\(Builtin.Str.partsBetween z (Builtin.Str.occurrences z y 0 z.length (z.length+1)) y.length).length<=z.length+2:=by
 have h1:=PySem.StrLaws.occ_length_le z y 0 z.length (z.length+1)
 have h2:(Builtin.Str.partsBetween z (Builtin.Str.occurrences z y 0 z.length (z.length+1)) y.length).length<=z.length+2:=by
  unfold Builtin.Str.partsBetween
  simp
  omega
 refine⟨?_,h2⟩
 have:∀ (ws:List Str),ws≠ []->ws.length<=(Str.join y ws).length+1:=by
  intro ws
  induction ws with
  |nil=>intro h;exact absurd rfl h
  |cons w r ih=>
   intro _
   cases r with
   |nil=>show 1<=w.length+1;omega
   |cons w' r'=>
    have:=ih (by simp)
    show(w'::r').length+1<=(w++y++Str.join y (w'::r')).length+1
    rw[PySem.Str.length_append,PySem.Str.length_append]
    omega
 by_cases c:Txt.split z y = []
 ·rw[c];exact aP _
 ·have h:=this _ c
  rw[cE]at h
  exact h
theorem uU:MtR X "str.split" (λx vs H Q=>∃ z y,x = .str z/\vs = [.str y]/\1<=y.length/\z.length<=100000/\∀ p,H p=none->Q (.ref p) (upd H p (.lst ((Txt.split z y).map V.str)))):=by
 intro pins s σ H x vs v us Q I rx rv h
 obtain⟨z,y,rfl,rfl,hy,hz,q⟩:=h
 obtain⟨t,rfl⟩:=rx
 obtain⟨u,rfl,ru⟩:=rv.one
 obtain⟨tu,rfl⟩:=ru
 have hy0:(y.length==0)=false:=by simp;omega
 have hx:z.length<=sizeLine:=by rw[aM];omega
 have hl:=split_len z y hy
 have hn:(Builtin.Str.partsBetween z (Builtin.Str.occurrences z y 0 z.length (z.length+1)) y.length).length<=sizeLine:=by rw[aM];omega
 have fin:∀ (l:List (Str×Tok)) (tk:Nat),l.map (·.1)=Txt.split z y->EP X pins σ Q (.ref s.heap.objs.size) {s with toks:=tk,heap:=s.heap.push {cls:=.type "list",data:=.seq (strValues l).toArray}} :=λl tk e=>by
  refine⟨.ref _,_,I.laid (t':=tk) (o:=.lst ((Txt.split z y).map V.str)) (λb ob q=>ak _ q) (ai _) ⟨?_,strValues l,0,?_,aR _ rfl⟩,rfl,q _ I.fresh⟩
  ·rw[aa,aM];omega
  ·rw[<-e];exact wC l
 cases h1:(decide (z.length<y.length)||decide (Builtin.Str.strKind z<Builtin.Str.strKind y))
 ·cases hf:(Builtin.Str.occurrences z y 0 z.length (z.length+1)).isEmpty
  ·refine eC cw (eT _ _ _) eU (eR _ _) (meets_str_split_sep z y t tu h1 hy0 hf hx hn) ?_
   show EP X pins σ Q _ {s with toks:=_,heap:=s.heap.push {cls:=.type "list",data:=.seq (strsFrom s.toks (Builtin.Str.partsBetween z (Builtin.Str.occurrences z y 0 z.length (z.length+1)) y.length)).toArray}}
   rw[strsFrom_eq]
   exact fin _ _ ((numbered_texts _ _).trans ((au (ne_true_of_eq_false h1)).trans (au (ne_true_of_eq_false hf))).symm)
  ·refine eC cw (eT _ _ _) eU (eR _ _) (meets_str_split_not_found z y t tu h1 hy0 hf) ?_
   exact fin [(z,t)] s.toks ((au (ne_true_of_eq_false h1)).trans (aA hf)).symm
 ·refine eC cw (eT _ _ _) eU (eR _ _) (meets_str_split_cannot_occur z y t tu h1) ?_
  exact fin [(z,t)] s.toks (aA h1).symm
end
section
variable {prog:Program}{w:World}{A:Around}{E:Value->Shared->Prop}{s:Shared}
theorem sC {it l:Addr}{items:Array Value}(hne:l≠it):∀ (n i:Nat) (s:Shared) (Q:List Value->Shared->Prop),s.heap.IsListIter it l i->s.heap.IsList l items->i+n<=items.size->
  (∀ h',h'.IsListIter it l (i+n)->Heap.SameBut it s.heap h'->Q ((items.toList.drop i).take n) {s with heap:=h'})->wpAny (model prog w) A (draw (.ref it) n) Q E s
 | 0,i,s,Q,hit,_,_,hQ=>by
  show wpAny _ _ (pure []) Q E s
  exact aj (by simpa using hQ s.heap hit (Heap.SameBut.refl ..))
 |n+1,i,s,Q,hit,hl,hle,hQ=>by
  have hlt:i<items.size:=by omega
  show wpAny _ _ (pyNext (.ref it) >>= _) Q E s
  refine ae (wpAny_pyNext_list_item hit hl (x:=items[i]) (by simp[hlt]) λh₁ vx hs₁=>?_)
  refine ae (bh (sC hne n (i+1) _ _ vx (hl.extBut hs₁.extBut hne) (by omega) λh₂ HG hs₂=>aj ?_))
  have hd:items.toList.drop i=items[i]::items.toList.drop (i+1):=by simp[dc,hlt]
  have:=hQ h₂ (by rw[show i+(n+1)=i+1+n by omega];exact HG) (hs₁.trans hs₂)
  rw[hd,List.take_succ_cons]at this
  exact this
theorem rJ {l:Addr}{items:Array Value}{Q:List Value->Shared->Prop}(hh:A.handled=none)(hl:s.heap.IsList l items)
  (hQ:∀ h',Heap.ExtBut s.heap.objs.size s.heap h'->Q items.toList {s with heap:=h'}):wpAny (model prog w) A (unpackItems (.ref l) items.size none) Q E s:=by
 have hlt:l≠s.heap.objs.size:=by obtain⟨o,ho,_⟩:=hl;exact aK (ay ho)
 unfold unpackItems
 refine ae ?_
 ·unfold notIterableAtAll
  refine ae (eI hl.typeIs slot_list_iter.lookup ?_)
  refine aj ?_
  simp only[aV,bQ]
  refine ae (bh (wpAny_pyIter_list hl ?_))
  refine ae (bh (sC hlt items.size 0 _ _ ⟨_,aR _ rfl,rfl,rfl⟩ (hl.push _) (by omega) λh₁ vx hs₁=>?_))
  have lJ:List.take items.size (List.drop 0 items.toList)=items.toList:=by
   rw[List.drop_zero];exact aO (by simp)
  rw[lJ]
  rw[au (by simp)]
  have hl₁:h₁.IsList l items:=(hl.push _).extBut hs₁.extBut hlt
  refine ae (bh (wpAny_pyNext_list_end hh vx hl₁ (by simp) λh₂ he₂=>?_))
  simp only[Option.isSome_none,aV,bQ]
  refine aj (hQ h₂ λb o hb e=>he₂ b o hb (hs₁.extBut b o hb (ak _ e)))
end
section
variable {X:Cx}{pos:Pos}
noncomputable def OV (K:PySem.W.Frag)(n:Nat)(t:TGs):TG:=λv σ H Q=>∃ a xs,v = .ref a/\SqL K H a xs/\xs.length=n/\t xs σ H Q
theorem DV {es:List Expr}{k:Nat}{t:TGs}{n:Nat}(hc:X.calm=true)(h:PGs X es t)
  (hn:(assignEach es X.env).length=n:=by rfl) (hst:(assignEach es X.env).findIdx? (·.1)=none:=by rfl):PG X (.Tuple es k pos) (OV X.K n t):=by
 intro pins s σ H v u Q I r hw
 obtain⟨a,xs,e1,hq,hl,hw⟩:=hw
 subst e1
 cases r
 obtain⟨its,rv,ht,hz⟩:=I.list hq
 have hsz:its.toArray.size=n:=by rw[aE,<-rv.length];exact hl
 rw[assign_Tuple]
 refine ae (cm ?_)
 unfold unpack
 rw[hn,hst,<-hsz]
 refine ae (bh (rJ (I.ok.hd hc) ht.isList λh' hx=>?_))
 have I1:Inv X pins σ H {s with heap:=h'} :=I.kept (t':=s.toks) λb o e=>hx b o (aK (ay e)) e
 exact h pins _ σ H xs _ Q I1 (by simpa using rv) hw
end
section
theorem WalksS.shift {prog:Program}{w:World}{A:Around}{I:Addr}{fp wr:List Addr}{G:Array GenState->Array GenState->Prop}{n:Nat}{P:Nat->Value->Prop}{St:Nat->Shared->Prop}
  (W:WalksS prog w A I fp wr G n P St) (k:Nat) (hk:k<=n):WalksS prog w A I fp wr G (n-k) (λi=>P (i+k)) (λi=>St (i+k)) where
 sub:=W.sub
 grefl:=W.grefl
 gtrans:=W.gtrans
 frame:=λi s h' tk st htk hb=>W.frame (i+k) s h' tk st htk hb
 item:=λi s Q E hi st hQ=>W.item (i+k) s Q E (by omega) st λv s' hP st' hm=>hQ v s' hP (by rw[show i+1+k=i+k+1 by omega];exact st') hm
 done:=λs Q E st hQ=>W.done s Q E (by have e:n-k+k=n:=(by omega);rw[e]at st;exact st) hQ
 self:=λi s Q E st hQ=>W.self (i+k) s Q E st hQ
variable {prog:Program}{w:World}{A:Around}{E:Value->Shared->Prop}{s:Shared}
theorem yj {items acc:Array Value}{k n:Nat}(h:ItemsOf (λi v=>items[i+k]? = some v) acc n)(hn:n=items.size-k):acc.toList=items.toList.drop k:=by
 refine List.ext_getElem? λj=>?_
 rw[bE,aw,aw]
 by_cases hj:j<acc.size
 ·rw[aS hj]
  have:=h.2 j _ (aS hj)
  rw[Nat.add_comm k j,this]
 ·rw[dC (by omega),dC (by have:=h.1;omega)]
theorem qI {l:Addr}{x:Value}{r:List Value}{Q:List Value->Shared->Prop}(hh:A.handled=none)(hl:s.heap.IsList l (x::r).toArray)(hz:r.length<=200000)
  (hQ:∀ (h':Heap) (tk:Nat),(∀ b o,s.heap.get? b=some o->h'.get? b=some o)->Q [x,.ref h'.objs.size] {s with heap:=h'.push {cls:=.type "list",data:=.seq r.toArray},toks:=tk}):
  wpAny (model prog w) A (unpackItems (.ref l) 2 (some 1)) Q E s:=by
 have hls:l<s.heap.objs.size:=by obtain⟨o,ho,_⟩:=hl;exact ay ho
 have hlt:l≠s.heap.objs.size:=aK hls
 have hsz:(x::r).toArray.size=r.length+1:=by simp
 unfold unpackItems
 refine ae ?_
 unfold notIterableAtAll
 refine ae (eI hl.typeIs slot_list_iter.lookup ?_)
 refine aj ?_
 simp only[aV,bQ]
 refine ae (bh (wpAny_pyIter_list hl ?_))
 refine ae (bh (sC hlt 1 0 _ _ ⟨_,aR _ rfl,rfl,rfl⟩ (hl.push _) (by omega) λh₁ vx hs₁=>?_))
 have e1:List.take 1 (List.drop 0 (x::r).toArray.toList) = [x]:=by simp
 rw[e1]
 show wpAny _ _ (if[x].length<1 then _ else _) _ _ _
 rw[au (by simp)]
 have hl₁:h₁.IsList l (x::r).toArray:=(hl.push _).extBut hs₁.extBut hlt
 have OF:h₁.objs.size=s.heap.objs.size+1:=by have:=hs₁.1;rw[this];exact Heap.size_push _ _
 have OM:l≠s.heap.objs.size:=hlt
 refine ae (bh (wpAny_collect_iter (T:= "list_iterator") (I:=s.heap.objs.size) (.inr (.inr (.inl rfl))) (WalksS.shift ((Walks.list (by simp[hh]) s.heap.objs.size l OM (x::r).toArray).toS) 1 (by omega)) (λi s' st=>st.1.typeIs) ⟨vx,hl₁⟩ ?_ (by simp) ?_ (by rw[hsz,aM];omega)))
 ·intro b hb
  show b<h₁.objs.size
  rw[OF]
  simp only[aI,bP,dq]at hb
  rcases hb with rfl |rfl
  ·exact Nat.lt_succ_self _
  ·exact Nat.lt_succ_of_lt hls
 intro s' acc hm OS
 have e2:=yj (k:=1) OS (by rw[hsz])
 have e3:(x::r).toArray.toList.drop 1=r:=by simp
 rw[e3]at e2
 rw[e2]
 show wpAny _ _ (if r.length<0 then _ else _) _ _ _
 rw[au (by omega)]
 obtain⟨h',g',d',tk',os'⟩:=s'
 have eg:g'=s.gens:=hm.gens
 have ed:d'=s.drawn:=hm.drawn
 have eo:os'=s.os:=hm.os
 subst eg;subst ed;subst eo
 have e4:List.take (r.length-0) r=r:=aO (by omega)
 have e5:List.drop (r.length-0) r = []:=List.drop_of_length_le (by omega)
 show wpAny _ _ (newList (List.take (r.length-0) r) >>= λv=>pure ([x] ++ [v]++List.drop (r.length-0) r)) _ _ _
 rw[e4,e5]
 refine ae (wpAny_newList ?_ (by rw[aM];omega))
 refine aj (hQ h' tk' λb o e=>?_)
 have hb:=ay e
 refine hm.heap b o ?_ (hs₁.extBut b o (aK hb) (ak _ e))
 simp only[aI,bP,dq]
 exact aK hb
end
section
variable {X:Cx}{pos:Pos}
noncomputable def HL (K:PySem.W.Frag)(t:TGs):TG:=λv σ H Q=>∃ a x xs,v = .ref a/\SqL K H a (x::xs)/\xs.length<=200000/\∀ p,H p=none->t [x,.ref p] σ (upd H p (.lst xs)) Q
theorem DT {e:Expr}{t:TG}{u:TGs}{es:List Expr}{p:Pos}(h1:PG X e t)(h2:PGs X es u)
  (hs:(assignEach (.Starred e p::es) X.env).map (·.2)=assign e X.env::(assignEach es X.env).map (·.2):=by rfl):PGs X (.Starred e p::es) (zW t u):=by
 intro pins s σ H vs us Q I r h
 obtain⟨v,vr,e1,h⟩:=h
 subst e1
 cases r with
 |cons r rr=>
  rw[hs]
  refine assignInOrder_cons (thn (h1 pins s σ H _ _ _ I r h) λ_ s1 ⟨σ1,H1,I1,q1⟩=>?_)
  exact h2 pins s1 σ1 H1 _ _ Q I1 rr q1
theorem DU {es:List Expr}{k:Nat}{t:TGs}(hc:X.calm=true)(h:PGs X es t)
  (hn:(assignEach es X.env).length=2:=by rfl) (hst:(assignEach es X.env).findIdx? (·.1)=some 1:=by rfl):PG X (.Tuple es k pos) (HL X.K t):=by
 intro pins s σ H v u Q I r hw
 obtain⟨a,x,xs,e1,hq,hl,hw⟩:=hw
 subst e1
 cases r
 obtain⟨its,rv,ht,hz⟩:=I.list hq
 cases rv with
 |@cons _ ux _ uxs rx rxs=>
  have hxl:=rxs.length
  rw[assign_Tuple]
  refine ae (cm ?_)
  unfold unpack
  rw[hn,hst]
  refine ae (bh (qI (I.ok.hd hc) ht.isList (by omega) λh' tk hk=>?_))
  have I1:Inv X pins σ H {s with heap:=h',toks:=tk} :=I.kept hk
  have I2:=I1.laid (a:=h'.objs.size) (o:=.lst xs) (h':=h'.push {cls:=.type "list",data:=.seq uxs.toArray}) (t':=tk) (λb ob q=>ak _ q) (ai _) ⟨by rw[aQ]at hz;omega,uxs,0,rxs,aR _ rfl⟩
  exact h pins _ σ _ [x,.ref h'.objs.size] [ux,.ref h'.objs.size] Q I2 (.cons rx (.cons rfl .nil)) (hw _ (I1.hok.fresh (ai _)))
end
theorem y9 (z:Str):(Builtin.Str.strSliceIndices none (some (-1)) 1 z.length).filterMap (z.cps[·]?)=z.cps.toList.dropLast:=by
 have e:Builtin.Str.strSliceIndices none (some (-1)) 1 z.length=Builtin.Str.strSliceIndices (some ((0:Nat):Int)) (some ((z.length-1:Nat):Int)) 1 z.length:=by
  unfold Builtin.Str.strSliceIndices
  dsimp only
  have h1:((1:Int)>0):=by decide
  simp only[h1,dt]
  have e1:max (0:Int) (min ((0:Nat):Int) (z.length:Int))=0:=by omega
  have e2:(if(-1:Int)<0 then -1+(z.length:Int)else -1)=(z.length:Int)-1:=by rw[aA (by decide)];omega
  have e3:(if((z.length-1:Nat):Int)<0 then((z.length-1:Nat):Int)+(z.length:Int)else((z.length-1:Nat):Int))=((z.length-1:Nat):Int):=by rw[au (by omega)]
  have e4:(if((0:Nat):Int)<0 then((0:Nat):Int)+(z.length:Int)else((0:Nat):Int))=0:=by rw[au (by omega)];rfl
  rw[e2,e3,e4]
  have e5:max (0:Int) (min ((z.length:Int)-1) (z.length:Int))=max (0:Int) (min ((z.length-1:Nat):Int) (z.length:Int)):=by omega
  have e6:max (0:Int) (min 0 (z.length:Int))=0:=by omega
  rw[e5,e6]
 rw[e,PySem.StrLaws.sliced_plain z (aP _) (by omega),List.drop_zero,List.dropLast_eq_take]
 simp[Str.length]
section
variable {X:Cx}
noncomputable def Fq:V->Option Int->Option Int->Hp->VK->Prop:=λx lo hi H Q=>∃ z,x = .str z/\lo=none/\hi=some (-1)/\z.length<=sizeLine/\Q (.str (mkS z.cps.toList.dropLast)) H
theorem Aw:SlR X Fq:=by
 intro pins s σ H x v vl vu lo hi sl Q I rx hs pl pu h
 obtain⟨z,rfl,rfl,rfl,hz,q⟩:=h
 obtain⟨t,rfl⟩:=rx
 cases pl
 cases pu with
 |int i tk=>
  refine⟨"str",_,slot_str_getitem.lookup,eT _ _ _,?_⟩
  refine wpAny_getItem_str_slice (l:=none) (u:=some (-1,tk)) (st:=none) hs rfl ?_
  unfold sliceMade
  have e:(⟨((slicePicked z none (some (-1,tk)) none).filterMap (z.cps[·]?)).toArray⟩:Str)=mkS z.cps.toList.dropLast:=by
   unfold mkS slicePicked
   congr 2
   exact y9 z
  rw[e]
  refine post_val_or_str ?_
  by_cases c:(((none:Option (Int×Tok)).map (·.1)).getD 1==1&&(slicePicked z none (some (-1,tk)) none).length==z.length)=true
  ·rw[aA c]
   have hz0:z=mkS z.cps.toList.dropLast:=by
    have c2:(slicePicked z none (some (-1,tk)) none).length=z.length:=by
     rw[cM]at c;exact eq_of_beq c.2
    have hl:(Builtin.Str.strSliceIndices none (some (-1)) 1 z.length).length=z.length:=c2
    have:z.cps.toList.dropLast.length=z.cps.toList.length->z=mkS z.cps.toList.dropLast:=λh=>by
     rw[cj]at h
     have h0:z.cps.toList.length=0:=by omega
     have:z.cps.toList = []:=List.eq_nil_of_length_eq_zero h0
     rw[this]
     rw[<-ye z,this];rfl
    refine this ?_
    have e2:Builtin.Str.strSliceIndices none (some (-1)) 1 z.length=Builtin.Str.strSliceIndices (some ((0:Nat):Int)) (some ((z.length-1:Nat):Int)) 1 z.length:=by
     unfold Builtin.Str.strSliceIndices
     dsimp only
     have h1:((1:Int)>0):=by decide
     simp only[h1,dt]
     have e2:(if(-1:Int)<0 then -1+(z.length:Int)else -1)=(z.length:Int)-1:=by rw[aA (by decide)];omega
     have e3:(if((z.length-1:Nat):Int)<0 then((z.length-1:Nat):Int)+(z.length:Int)else((z.length-1:Nat):Int))=((z.length-1:Nat):Int):=by rw[au (by omega)]
     have e4:(if((0:Nat):Int)<0 then((0:Nat):Int)+(z.length:Int)else((0:Nat):Int))=0:=by rw[au (by omega)];rfl
     rw[e2,e3,e4]
     have e5:max (0:Int) (min ((z.length:Int)-1) (z.length:Int))=max (0:Int) (min ((z.length-1:Nat):Int) (z.length:Int)):=by omega
     have e6:max (0:Int) (min 0 (z.length:Int))=0:=by omega
     rw[e5,e6]
    rw[e2,PySem.StrLaws.strSliceIndices_plain (aP _) (by omega),aa,dy]at hl
    have hzl:z.cps.toList.length=z.length:=by simp[Str.length]
    rw[cj]
    omega
   rw[<-hz0]at q
   exact⟨hz,λt' k=>⟨.str z,H,I.tok _,⟨_,rfl⟩,q⟩⟩
  ·rw[au c]
   refine⟨?_,λt' k=>⟨.str _,H,I.tok _,⟨_,rfl⟩,q⟩⟩
   rw[Bw,cj]
   have hzl:z.cps.toList.length=z.length:=by simp[Str.length]
   omega
end
noncomputable def Its (x:Str):It:=⟨λi _=>i<x.cps.size,λi H v H'=>H'=H/\∃ c,x.cps[i]? = some c/\v = .str ⟨#[c]⟩,λi _=>x.cps.size<=i⟩
theorem Cc {P:Program}{w:World}{K:PySem.W.Frag}{tg:Expr}(x:Str)(t:Tok)(it:Addr):Turn P w K tg (Its x) [it] it (λi h=>h.IsStrIter it "str_ascii_iterator" x t i) where
 mem:=by simp
 obj:=λi h st b hb=>by
  have e:b=it:=by simpa using hb
  subst e
  obtain⟨o,e,c,d⟩:=st
  exact⟨o,e,λv z=>by rw[d]at z;cases z⟩
 keep:=λi h h' st k=>let ⟨o,ho,r⟩:=st;⟨o,k it (by simp) o ho,r⟩
 item:=by
  intro X hP hw hK hc i pins s σ H E I hf st hg
  subst hP hw hK
  have hg:i<x.cps.size:=hg
  obtain⟨f0,f1,f2,f3,f4,f5⟩:=hf it (by simp)
  refine wpAny_pyNext_ascii_item st (c:=x.cps[i]) (by simp[hg]) λh' st' sb=>?_
  have I1:Inv X pins σ H {s with heap:=h',toks:=s.toks+1} :=I.turned (t':=s.toks+1) (λb o hb e=>(sb.2 b hb).trans e) f0 f1 f3 f4 f5
  obtain⟨o,e,c,d⟩:=id st'
  exact⟨_,rfl,zV (s:={s with heap:=h',toks:=s.toks+1}) e c d (by decide) ⟨.str ⟨#[x.cps[i]]⟩,H,I1,⟨_,rfl⟩,⟨rfl,_,by simp[hg],rfl⟩,st',λb hb=>(hf b hb).1⟩⟩
 done:=by
  intro X hP hw hK hc i pins s σ H E I hf st hg
  subst hP hw hK
  have hg:x.cps.size<=i:=hg
  obtain⟨f0,f1,f2,f3,f4,f5⟩:=hf it (by simp)
  exact wpAny_pyNext_ascii_end (I.ok.hd hc) st (by simp[hg]) λh' eb=>⟨rfl,I.turned (t':=s.toks) (λb o hb e=>eb b o hb e) f0 f1 f3 f4 f5⟩
 self:=λ_ _ _ _ _ st h=>wpAny_pyIter_striter_ascii st h
theorem Cb {P:Program}{w:World}{K:PySem.W.Frag}{tg:Expr}(x:Str)(t:Tok)(it:Addr):Turn P w K tg (Its x) [it] it (λi h=>h.IsStrIter it "str_iterator" x t i) where
 mem:=by simp
 obj:=λi h st b hb=>by
  have e:b=it:=by simpa using hb
  subst e
  obtain⟨o,e,c,d⟩:=st
  exact⟨o,e,λv z=>by rw[d]at z;cases z⟩
 keep:=λi h h' st k=>let ⟨o,ho,r⟩:=st;⟨o,k it (by simp) o ho,r⟩
 item:=by
  intro X hP hw hK hc i pins s σ H E I hf st hg
  subst hP hw hK
  have hg:i<x.cps.size:=hg
  obtain⟨f0,f1,f2,f3,f4,f5⟩:=hf it (by simp)
  refine wpAny_pyNext_wide_item st (c:=x.cps[i]) (by simp[hg]) λh' st' sb=>?_
  have I1:Inv X pins σ H {s with heap:=h',toks:=s.toks+1} :=I.turned (t':=s.toks+1) (λb o hb e=>(sb.2 b hb).trans e) f0 f1 f3 f4 f5
  obtain⟨o,e,c,d⟩:=id st'
  exact⟨_,rfl,zV (s:={s with heap:=h',toks:=s.toks+1}) e c d (by decide) ⟨.str ⟨#[x.cps[i]]⟩,H,I1,⟨_,rfl⟩,⟨rfl,_,by simp[hg],rfl⟩,st',λb hb=>(hf b hb).1⟩⟩
 done:=by
  intro X hP hw hK hc i pins s σ H E I hf st hg
  subst hP hw hK
  have hg:x.cps.size<=i:=hg
  obtain⟨f0,f1,f2,f3,f4,f5⟩:=hf it (by simp)
  exact wpAny_pyNext_wide_end (I.ok.hd hc) st (by simp[hg]) λh' eb=>⟨rfl,I.turned (t':=s.toks) (λb o hb e=>eb b o hb e) f0 f1 f3 f4 f5⟩
 self:=λ_ _ _ _ _ st h=>wpAny_pyIter_striter_wide st h
section
variable {X:Cx}{tg e:Expr}{te:TE}
noncomputable def OD (te:TE):TI:=λσ H R=>te σ H λv H1=>∃ x,v = .str x/\R (Its x) H1
theorem G9 (he:PE X e te):PI X tg e (OD te):=by
 intro pins s σ H R I h
 refine thn (he pins s σ H _ I h) λu s1 ⟨v,H1,I1,r,x,ex,q⟩=>?_
 subst ex
 obtain⟨t,rfl⟩:=r
 have fp:∀ (o:Obj) (b:Addr),b∈ [s1.heap.objs.size]->nC X pins H1 b:=λo b hb=>by
  have e:b=s1.heap.objs.size:=by simpa using hb
  subst e
  exact I1.EJ (ai _) (I1.hok.fresh (ai _))
 cases ha:x.cps.all (· < 128)
 ·refine wpAny_pyIter_wide ha ?_
  exact⟨s1.heap.objs.size,[s1.heap.objs.size],_,_,H1,rfl,I1.kept (t':=s1.toks) (λb o e=>ak _ e),Cb x t _,⟨_,aR _ rfl,rfl,rfl⟩,fp default,q⟩
 ·refine wpAny_pyIter_ascii ha ?_
  exact⟨s1.heap.objs.size,[s1.heap.objs.size],_,_,H1,rfl,I1.kept (t':=s1.toks) (λb o e=>ak _ e),Cc x t _,⟨_,aR _ rfl,rfl,rfl⟩,fp default,q⟩
theorem Hz {x:Str}{H1:Hp} :JS (Its x) x.cps.size H1 (λi v=>∃ c,x.cps[i]? = some c/\v = .str ⟨#[c]⟩):=
 ⟨λi H s hi=>hi,λi H v H' s hi y=>y,λH s=>ai _⟩
end
theorem Dh {X:Cx} :jN X (.type "int") (λxs H Q=>∃ z n,xs = [.str z]/\PySem.intText? z=some n/\z.length<=640/\Q (.int n) H):=by
 intro pins s σ H xs us Q I r h
 obtain⟨z,n,rfl,hn,hl,q⟩:=h
 obtain⟨u,rfl,ru⟩:=vals1 r
 obtain⟨t,rfl⟩:=ru
 exact PySem.W.KIN.call_text hn hl ⟨.int n,H,I.tok _,⟨_,rfl⟩,q⟩
end TL
namespace TS
open PySem
noncomputable def lcg:Nat->Nat->Nat
 | 0,x=>x
 |d+1,x=>5*lcg d x+1
theorem yh (d:Nat):∀ e x,lcg (e+d) x=lcg e (lcg d x)
 | 0,x=>by rw[cB];rfl
 |e+1,x=>by rw[Nat.add_right_comm];show 5*lcg (e+d) x+1=5*lcg e (lcg d x)+1;rw[yh d e x]
theorem BA:∀ k,∃ q,q%2=1/\∀ x,lcg (2 ^ k) x=x+2 ^ k*q*(4*x+1)
 | 0=>⟨1,rfl,λx=>by show 5*x+1=_;omega⟩
 |k+1=>by
  obtain⟨q,hq,h⟩:=BA k
  refine⟨q*(1+2*2 ^ k*q),?_,λx=>?_⟩
  ·have e:q*(1+2*2 ^ k*q)=q+2*(q*2 ^ k*q):=by
    rw[Nat.mul_add,Nat.mul_one,bY 2,Nat.mul_left_comm q 2,bY q]
   rw[e,Nat.add_mul_mod_self_left];exact hq
  ·rw[eD,Nat.mul_two,yh,h x,h]
   generalize 2 ^ k=p
   have e:∀ y,p*q*(4*(x+y)+1)=p*q*(4*x+1)+4*(p*q*y):=λy=>by
    rw[show 4*(x+y)+1=(4*x+1)+4*y by omega,Nat.mul_add,Nat.mul_left_comm (p*q) 4 y]
   rw[e]
   have e2:(p+p)*(q*(1+2*p*q))*(4*x+1)=2*(p*q*(4*x+1))+4*(p*q*(p*q*(4*x+1))):=by
    have a1:(p+p)*(q*(1+2*p*q))=2*(p*q)+4*(p*q*(p*q)):=by
     rw[<-Nat.two_mul,bY,<-bY p q,Nat.mul_add,Nat.mul_one,Nat.mul_add]
     congr 1
     rw[bY 2 p q,Nat.mul_left_comm (p*q) 2,<-bY]
    rw[a1,Nat.add_mul,bY 2,bY 4,bY (p*q)]
   rw[e2]
   omega
theorem BB:∀ k x y,∃ d,d<2 ^ k/\lcg d x%2 ^ k=y%2 ^ k
 | 0,x,y=>⟨0,Nat.one_pos,by simp[Nat.mod_one]⟩
 |k+1,x,y=>by
  obtain⟨d,hd,e⟩:=BB k x y
  have hp:0<2 ^ k:=Nat.two_pow_pos k
  have h2:2 ^ (k+1)=2 ^ k*2:=eD ..
  obtain⟨q,hq,h⟩:=BA k
  have split:∀ a,a%(2 ^ k*2)=a%2 ^ k+2 ^ k*(a/2 ^ k%2):=λa=>Nat.mod_mul
  by_cases c:lcg d x/2 ^ k%2=y/2 ^ k%2
  ·exact⟨d,by omega,by rw[h2,split,split,e,c]⟩
  ·refine⟨2 ^ k+d,by omega,?_⟩
   rw[yh,h,h2,split,split]
   generalize hz:lcg d x=z at *
   have h4:(q*(4*z+1))%2=1:=by
    rw[Nat.mul_mod,hq,show(4*z+1)%2=1 by omega]
   have e1:(z+2 ^ k*q*(4*z+1))%2 ^ k=z%2 ^ k:=by rw[bY,Nat.add_mul_mod_self_left]
   have e2:(z+2 ^ k*q*(4*z+1))/2 ^ k=z/2 ^ k+q*(4*z+1):=by rw[bY,Nat.add_mul_div_left _ _ hp]
   rw[e1,e2,e]
   congr 2
   have:=Nat.mod_two_eq_zero_or_one (z/2 ^ k)
   have:=Nat.mod_two_eq_zero_or_one (y/2 ^ k)
   omega
open SetTable
noncomputable def adv (mask:Nat)(p:Probe):Probe:=
 if p.more>0 then {p with j:=p.j+1,more:=p.more-1} else
 {p with j:=(leap mask p.i p.perturb).1,more:=runEnd mask (leap mask p.i p.perturb).1-(leap mask p.i p.perturb).1,i:=(leap mask p.i p.perturb).1,perturb:=(leap mask p.i p.perturb).2}
theorem E5 (t:SetTable)(p:Probe):t.advance p=adv t.mask p:=by unfold advance adv;split<;>rfl
noncomputable def pAt (mask:Nat)(h:Int):Nat->Probe
 | 0=>{j:=bits h%(mask+1),more:=runEnd mask (bits h%(mask+1))-bits h%(mask+1),i:=bits h%(mask+1),perturb:=bits h,dummy:=none}
 |n+1=>adv mask (pAt mask h n)
theorem wQ (mask:Nat)(h:Int):∀ n,(pAt mask h n).dummy=none
 | 0=>rfl
 |n+1=>by
  show(adv mask (pAt mask h n)).dummy=none
  unfold adv
  split<;>exact wQ mask h n
noncomputable def lpI (mask:Nat)(h:Int):Nat->Nat×Nat
 | 0=>(bits h%(mask+1),bits h)
 |r+1=>leap mask (lpI mask h r).1 (lpI mask h r).2
noncomputable def lpT (mask:Nat)(h:Int):Nat->Nat
 | 0=>0
 |r+1=>lpT mask h r+(runEnd mask (lpI mask h r).1-(lpI mask h r).1)+1
theorem wM (mask i:Nat):i<=runEnd mask i:=by unfold runEnd;split<;>omega
theorem Co (mask i:Nat):runEnd mask i<=i+9:=by unfold runEnd;split<;>omega
variable {mask:Nat}
theorem sY {i:Nat}(h:i<=mask):runEnd mask i<=mask:=by unfold runEnd;split<;>omega
theorem pC (mask:Nat)(h:Int):∀ r d,d<=runEnd mask (lpI mask h r).1-(lpI mask h r).1->
  pAt mask h (lpT mask h r+d) = {j:=(lpI mask h r).1+d,more:=runEnd mask (lpI mask h r).1-(lpI mask h r).1-d,i:=(lpI mask h r).1,perturb:=(lpI mask h r).2,dummy:=none}
 | 0,0,_=>rfl
 |r+1,0,_=>by
  have ih:=pC mask h r _ (ai _)
  show pAt mask h (lpT mask h r+(runEnd mask (lpI mask h r).1-(lpI mask h r).1)+1)=_
  show adv mask (pAt mask h (lpT mask h r+(runEnd mask (lpI mask h r).1-(lpI mask h r).1)))=_
  rw[ih]
  unfold adv
  simp only[cP,gt_iff_lt,cf,bQ]
  rfl
 |r,d+1,hd=>by
  have ih:=pC mask h r d (by omega)
  show adv mask (pAt mask h (lpT mask h r+d))=_
  rw[ih]
  unfold adv
  rw[aA (by show _>0;simp only;omega)]
  simp only[Probe.mk.injEq,and_true,true_and]
  omega
theorem AQ (mask:Nat)(h:Int):∀ r,(lpI mask h r).1<=mask
 | 0=>Nat.le_of_lt_succ (Nat.mod_lt (bits h) (Nat.succ_pos mask))
 |r+1=>Nat.le_of_lt_succ (Nat.mod_lt ((lpI mask h r).1*5+1+(lpI mask h r).2/32) (Nat.succ_pos mask))
theorem F6 (h:Int):bits h<2 ^ 64:=by unfold bits;omega
theorem zI (mask:Nat)(h:Int):∀ r,(lpI mask h r).2=bits h/32 ^ r
 | 0=>by simp[lpI]
 |r+1=>by
  show(lpI mask h r).2/32=_
  rw[zI mask h r,Nat.div_div_eq_div_mul,eD]
theorem Ep (mask:Nat)(h:Int){r:Nat}(hr:13<=r):(lpI mask h r).2=0:=by
 rw[zI]
 have h1:=F6 h
 have h2:32 ^ 13<=32 ^ r:=ef (by decide) hr
 exact Nat.div_eq_of_lt (aT h1 (bq (by decide) h2))
theorem By (mask:Nat)(h:Int){s:Nat}(hs:13<=s):∀ d,(lpI mask h (s+d)).1=lcg d (lpI mask h s).1%(mask+1)
 | 0=>by show(lpI mask h s).1=(lpI mask h s).1%(mask+1);rw[Nat.mod_eq_of_lt (Nat.lt_succ_of_le (AQ mask h s))]
 |d+1=>by
  have ih:=By mask h hs d
  show((lpI mask h (s+d)).1*5+1+(lpI mask h (s+d)).2/32)%(mask+1)=(5*lcg d (lpI mask h s).1+1)%(mask+1)
  rw[Ep mask h (by omega),ih,Nat.zero_div,cC,Nat.mul_comm _ 5,Nat.add_mod,Nat.mul_mod_mod,<-Nat.add_mod]
variable {j:Nat}
theorem Bz {k:Nat}(hk:mask+1=2 ^ k)(h:Int)(r0:Nat)(hj:j<=mask):∃ r,r0+1<=r/\r<=r0+mask+14/\(lpI mask h r).1=j:=by
 obtain⟨s,h1,h2,h3⟩:∃ s,13<=s/\r0+1<=s/\s<=r0+14:=by
  by_cases c:13<=r0+1
  ·exact⟨r0+1,c,by omega,by omega⟩
  ·exact⟨13,by omega,by omega,by omega⟩
 obtain⟨d,hd,e⟩:=BB k (lpI mask h s).1 j
 refine⟨s+d,by omega,by omega,?_⟩
 rw[By mask h h1,hk,e,Nat.mod_eq_of_lt (by omega)]
theorem Eo (mask:Nat)(h:Int)(r:Nat):∀ e,lpT mask h (r+e)<=lpT mask h r+10*e
 | 0=>ai _
 |e+1=>by
  have:=Eo mask h r e
  have h2:=Co mask (lpI mask h (r+e)).1
  show lpT mask h (r+e)+(runEnd mask (lpI mask h (r+e)).1-(lpI mask h (r+e)).1)+1<=_
  omega
theorem yf (mask:Nat)(h:Int)(r:Nat):lpT mask h r<lpT mask h (r+1):=by
 show _<lpT mask h r+(runEnd mask (lpI mask h r).1-(lpI mask h r).1)+1
 omega
theorem zH (mask:Nat)(h:Int)(r:Nat):∀ e,lpT mask h r<=lpT mask h (r+e)
 | 0=>ai _
 |e+1=>bq (zH mask h r e) (bZ (yf mask h (r+e)))
theorem uZ (mask:Nat)(h:Int):∀ n,∃ r,lpT mask h r<=n/\n<lpT mask h (r+1)
 | 0=>⟨0,ai _,yf mask h 0⟩
 |n+1=>by
  obtain⟨r,h1,h2⟩:=uZ mask h n
  by_cases c:n+1<lpT mask h (r+1)
  ·exact⟨r,by omega,c⟩
  ·exact⟨r+1,by omega,by have:=yf mask h (r+1);omega⟩
theorem Bu {k:Nat}(hk:mask+1=2 ^ k)(h:Int)(n:Nat)(hj:j<=mask):∃ m,n<=m/\m<n+10*turns mask/\(pAt mask h m).j=j:=by
 obtain⟨r0,h1,h2⟩:=uZ mask h n
 obtain⟨r,h3,h4,e⟩:=Bz hk h r0 hj
 refine⟨lpT mask h r,?_,?_,?_⟩
 ·obtain⟨x,rfl⟩:∃ x,r=r0+1+x:=⟨r-(r0+1),by omega⟩
  have:=zH mask h (r0+1) x
  omega
 ·obtain⟨x,rfl⟩:∃ x,r=r0+x:=⟨r-r0,by omega⟩
  have:=Eo mask h r0 x
  unfold turns
  omega
 ·have:=pC mask h r 0 (aP _)
  rw[cC]at this
  rw[this]
  simpa using e
theorem He (mask:Nat)(h:Int)(n:Nat):(pAt mask h n).j<=mask:=by
 obtain⟨r,h1,h2⟩:=uZ mask h n
 have h3:=sY (AQ mask h r)
 have h4:=pC mask h r (n-lpT mask h r) (by
  have:n<lpT mask h r+(runEnd mask (lpI mask h r).1-(lpI mask h r).1)+1:=h2
  omega)
 rw[show lpT mask h r+(n-lpT mask h r)=n by omega]at h4
 rw[h4]
 have:n<lpT mask h r+(runEnd mask (lpI mask h r).1-(lpI mask h r).1)+1:=h2
 have h5:=wM mask (lpI mask h r).1
 show(lpI mask h r).1+(n-lpT mask h r)<=mask
 omega
open SetTable
theorem vI {xs:Array Nat}{j:Nat}(hs:xs.toList.Pairwise (· < ·)):∀ fuel lo hi,hi-lo<=fuel->lo<=hi->hi<=xs.size->(∀ i (h:i<xs.size),i<lo->xs[i]<j)->(∀ i (h:i<xs.size),hi<=i->j<=xs[i])->
  below.go xs j fuel lo hi<=xs.size/\(∀ i (h:i<xs.size),i<below.go xs j fuel lo hi->xs[i]<j)/\(∀ i (h:i<xs.size),below.go xs j fuel lo hi<=i->j<=xs[i])
 | 0,lo,hi,h1,h2,h3,h4,h5=>by
  have:lo=hi:=by omega
  subst this
  exact⟨h3,h4,h5⟩
 |fuel+1,lo,hi,h1,h2,h3,h4,h5=>by
  unfold below.go
  by_cases c:lo<hi
  ·rw[aA c]
   dsimp only
   have hm:(lo+hi)/2<xs.size:=by omega
   have e:xs.getD ((lo+hi)/2) j=xs[(lo+hi)/2]:=by simp[Array.getD,hm]
   have mono:∀ a b (ha:a<xs.size) (hb:b<xs.size),a<b->xs[a]<xs[b]:=λa b ha hb hab=>by
    have:=bD.mp hs a b (by simpa using ha) (by simpa using hb) hab
    simpa using this
   rw[e]
   by_cases d:xs[(lo+hi)/2]<j
   ·rw[aA d]
    refine vI hs fuel _ _ (by omega) (by omega) h3 (λi h hi'=>?_) h5
    by_cases q:i=(lo+hi)/2
    ·subst q;exact d
    ·exact Nat.lt_trans (mono i _ h hm (by omega)) d
   ·rw[au d]
    refine vI hs fuel _ _ (by omega) (by omega) (by omega) h4 (λi h hi'=>?_)
    by_cases q:i=(lo+hi)/2
    ·subst q;omega
    ·have:=mono _ i hm h (by omega);omega
  ·rw[au c]
   have:lo=hi:=by omega
   subst this
   exact⟨h3,h4,h5⟩
theorem oF {xs:Array Nat}(hs:xs.toList.Pairwise (· < ·))(j:Nat):
  below xs j<=xs.size/\(∀ i (h:i<xs.size),i<below xs j->xs[i]<j)/\(∀ i (h:i<xs.size),below xs j<=i->j<=xs[i]):=
 vI hs xs.size 0 xs.size (by omega) (by omega) (ai _) (λi h c=>by omega) λi h c=>by omega
theorem below_at {xs:Array Nat}(hs:xs.toList.Pairwise (· < ·)){i:Nat}(h:xs[i]? = some j):below xs j=i:=by
 obtain⟨h1,h2,h3⟩:=oF hs j
 obtain⟨hi,e⟩:=bA.mp h
 have mono:∀ a b (ha:a<xs.size) (hb:b<xs.size),a<b->xs[a]<xs[b]:=λa b ha hb hab=>by
  have:=bD.mp hs a b (by simpa using ha) (by simpa using hb) hab
  simpa using this
 rcases Nat.lt_trichotomy (below xs j) i with c |c |c
 ·have:=h3 (below xs j) (by omega) (ai _)
  have:=mono _ _ (by omega) hi c
  omega
 ·exact c
 ·have:=h2 i hi c
  omega
theorem wq {xs:Array Nat}(hs:xs.toList.Pairwise (· < ·))(hj:j∉xs.toList):(insertAt xs (below xs j) j).toList.Pairwise (· < ·):=by
 obtain⟨h1,h2,h3⟩:=oF hs j
 rw[dw]
 have a:∀ y∈xs.toList.take (below xs j),y<j:=λy hy=>by
  obtain⟨i,hi,e⟩:=bK.mp hy
  rw[aN]at hi
  rw[dz]at e
  rw[<-e]
  exact h2 i (by simpa using(show i<xs.toList.length by omega)) (by omega)
 have b:∀ y∈xs.toList.drop (below xs j),j<y:=λy hy=>by
  obtain⟨i,hi,e⟩:=bK.mp hy
  rw[bC]at hi
  rw[List.getElem_drop]at e
  have hm:y∈xs.toList:=cU hy
  have:j≠y:=λz=>hj (z ▸ hm)
  have:=h3 (below xs j+i) (by simpa using(show below xs j+i<xs.toList.length by omega)) (by omega)
  rw[<-e]at *
  simp at *
  omega
 refine bj.mpr ⟨hs.sublist (eO _ _),di.mpr ⟨b,hs.sublist (List.drop_sublist _ _)⟩,λx hx y hy=>?_⟩
 rcases aI.mp hy with rfl |hy
 ·exact a x hx
 ·exact Nat.lt_trans (a x hx) (b y hy)
variable {t:SetTable}
theorem nH (hs:t.place.toList.Pairwise (· < ·)){i:Nat}(h:t.place[i]? = some j):t.slot j = .live i:=by
 unfold slot
 dsimp only
 rw[below_at hs h,h]
 simp
theorem uq (hd:t.dummies = #[])(h:j∉t.place.toList):t.slot j = .empty:=by
 unfold slot
 dsimp only
 rw[au,hd,au]
 ·simp[has]
 ·intro z
  have z':t.place[below t.place j]? = some j:=by simpa using z
  exact h (by rw[eu];exact Array.mem_of_getElem? z')
theorem sub_len:∀ {l m:List Nat},l.Nodup->(∀ x∈l,x∈m)->l.length<=m.length
 |[],m,_,_=>aP _
 |x::l,m,hn,hs=>by
  rw[cA]at hn
  have hx:=hs x az
  have:=@sub_len l (m.erase x) hn.2 λy hy=>by
   refine(List.mem_erase_of_ne ?_).mpr (hs y (ar _ hy))
   rintro rfl
   exact hn.1 hy
  have h2:=List.length_erase_of_mem hx
  have h3:0<m.length:=List.length_pos_of_mem hx
  rw[aQ]
  omega
theorem wJ {l:List Nat}{mask:Nat}(h:l.length<=mask):∃ j,j<=mask/\j∉l:=by
 refine bB λc=>?_
 have:=@sub_len (List.range (mask+1)) l List.nodup_range λx hx=>bB λq=>c ⟨x,by have:=bT.mp hx;omega,q⟩
 rw[dy]at this
 omega
noncomputable def rF (mask:Nat)(taken:List Nat)(h:Int)(j:Nat):Prop:=∃ n,(pAt mask h n).j=j/\∀ m,m<n->(pAt mask h m).j∈taken
structure WFT (t:SetTable)(hs:List Int):Prop where
 pow:∃ k,3<=k/\t.mask+1=2 ^ k
 small:t.mask<=8191
 dum:t.dummies = #[]
 rise:t.place.toList.Pairwise (· < ·)
 all:∀ j∈t.place.toList,j<=t.mask
 len:t.place.size=hs.length
 room:hs.length*5<t.mask*3
 reach:∀ i (h:i<hs.length) j,t.place[i]? = some j->rF t.mask t.place.toList hs[i] j
variable {hs:List Int}
theorem WFT.fits (W:WFT t hs):t.fits hs.length=true:=by
 have:=W.room
 simp only[SetTable.fits,SetTable.fill,W.len,W.dum,dH,Bool.true_and,du]
 show hs.length+0<=t.mask
 omega
theorem WFT.OT (W:WFT t hs):t.gaveWay=false:=by
 obtain⟨k,hk,e⟩:=W.pow
 obtain⟨k,rfl⟩:∃ q,k=q+1:=⟨k-1,by omega⟩
 rw[eD]at e
 unfold gaveWay
 have:t.mask%2=1:=by omega
 rw[this];rfl
theorem WFT.fresh (a b:Nat)(led:Bool):WFT (SetTable.fresh a b led) []:=
 ⟨⟨3,by decide,rfl⟩,(by show 7<=8191;decide),rfl,List.Pairwise.nil,λj hj=>by simp[SetTable.fresh]at hj,rfl,(by show 0*5<7*3;decide),λi h=>by simp at h⟩
noncomputable def Hit (t:SetTable)(hs:List Int)(h:Int)(n:Nat):Prop:=(pAt t.mask h n).j∉t.place.toList\/∃ i,t.place[i]? = some (pAt t.mask h n).j/\hs.getD i 0=h
noncomputable def vy (t:SetTable)(h:Int)(n:Nat):SetTable.Met:=match t.slot (pAt t.mask h n).j with
 |.live i=>.candidate (pAt t.mask h n).j i (pAt t.mask h (n+1))
 |_=>.empty (pAt t.mask h n).j none
theorem DQ (W:WFT t hs){ha:Nat->Int}{h:Int}(hh:∀ i,i<hs.length->ha i=hs.getD i 0):∀ (d fuel n:Nat),d<fuel->Hit t hs h (n+d)->(∀ m,n<=m->m<n+d->¬Hit t hs h m)->
  SetTable.probe.go t ha h fuel (pAt t.mask h n)=some (vy t h (n+d)):=by
 intro d
 induction d with
 |zero=>
  intro fuel n hf hit _
  obtain⟨f,rfl⟩:∃ f,fuel=f+1:=⟨fuel-1,by omega⟩
  unfold SetTable.probe.go vy
  rw[cC]at hit ⊢
  rcases hit with z |⟨i,z,e⟩
  ·rw[uq W.dum z,wQ]
  ·rw[nH W.rise z]
   have hi:i<hs.length:=by rw[<-W.len];exact(bA.mp z).1
   dsimp only
   rw[hh i hi,e,dH,aA rfl,E5]
   rfl
 |succ d ih=>
  intro fuel n hf hit hno
  obtain⟨f,rfl⟩:∃ f,fuel=f+1:=⟨fuel-1,by omega⟩
  have hn:=hno n (ai _) (by omega)
  unfold Hit at hn
  rw[not_or,Classical.not_not]at hn
  obtain⟨n1,n2⟩:=hn
  obtain⟨i,hi⟩:=Array.mem_iff_getElem?.mp (eu.mp n1)
  have hi':i<hs.length:=by rw[<-W.len];exact(bA.mp hi).1
  unfold SetTable.probe.go
  rw[nH W.rise hi]
  dsimp only
  rw[hh i hi',au (by intro z;exact n2 ⟨i,hi,by simpa using z⟩),E5]
  have:=ih f (n+1) (by omega) (by rw[show n+1+d=n+(d+1) by omega];exact hit) λm h1 h2=>hno m (by omega) (by omega)
  rw[show n+(d+1)=n+1+d by omega]
  exact this
theorem sA {P:Nat->Prop} :∀ d n,P (n+d)->∃ e,e<=d/\P (n+e)/\∀ m,n<=m->m<n+e->¬P m
 | 0,n,h=>⟨0,ai _,h,λm h1 h2=>by omega⟩
 |d+1,n,h=>by
  by_cases c:P n
  ·exact⟨0,aP _,c,λm h1 h2=>by omega⟩
  ·obtain⟨e,h1,h2,h3⟩:=sA (P:=P) d (n+1) (by rw[show n+1+d=n+(d+1) by omega];exact h)
   refine⟨e+1,by omega,by rw[show n+(e+1)=n+1+e by omega];exact h2,λm h4 h5=>?_⟩
   by_cases q:m=n
   ·subst q;exact c
   ·exact h3 m (by omega) (by omega)
theorem Ay (W:WFT t hs){ha:Nat->Int}{h:Int}(hh:∀ i,i<hs.length->ha i=hs.getD i 0)(n:Nat):
  ∃ m,n<=m/\Hit t hs h m/\(∀ q,n<=q->q<m->¬Hit t hs h q)/\t.probe ha h (pAt t.mask h n)=some (vy t h m):=by
 obtain⟨k,_,hk⟩:=W.pow
 obtain⟨j,hj,hf⟩:=@wJ t.place.toList t.mask (by
  have:=W.room;have h1:=W.len
  rw[ah];omega)
 obtain⟨m,h1,h2,e⟩:=Bu hk h n hj
 obtain⟨d,rfl⟩:∃ d,m=n+d:=⟨m-n,by omega⟩
 obtain⟨e',h3,h4,h5⟩:=sA (P:=Hit t hs h) d n (.inl (by rw[e];exact hf))
 exact⟨n+e',by omega,h4,h5,DQ W hh e' _ n (by omega) h4 h5⟩
theorem WFT.put (W:WFT t hs){h:Int}{n:Nat}(he:(pAt t.mask h n).j∉t.place.toList)(hn:∀ m,m<n->(pAt t.mask h m).j∈t.place.toList)(b:Bool)
  (hr:(hs.length+1)*5<t.mask*3):WFT {(t.put (pAt t.mask h n).j).1 with plain:=b} (hs.take (t.put (pAt t.mask h n).j).2++h::hs.drop (t.put (pAt t.mask h n).j).2):=by
 generalize hj:(pAt t.mask h n).j=j at he
 have hp:(t.put j).2=below t.place j:=rfl
 have hpl:(t.put j).1.place=insertAt t.place (below t.place j) j:=rfl
 have hle:=(oF W.rise j).1
 have hL:(insertAt t.place (below t.place j) j).toList=t.place.toList.take (below t.place j)++j::t.place.toList.drop (below t.place j):=dw ..
 have tY:∀ x,x∈t.place.toList->x∈(insertAt t.place (below t.place j) j).toList:=λx hx=>by
  rw[hL]
  rw[<-cy (below t.place j) t.place.toList]at hx
  rcases aJ.mp hx with z |z
  ·exact bL _ z
  ·exact aL _ (ar _ z)
 have len:(hs.take (below t.place j)++h::hs.drop (below t.place j)).length=hs.length+1:=by
  rw[aU,aQ,aN,bC]
  have:=W.len
  omega
 refine⟨W.pow,W.small,?_,wq W.rise he,λx hx=>?_,?_,?_,λi hi x hx=>?_⟩
 ·show(if has t.dummies j then eraseAt t.dummies (below t.dummies j)else t.dummies) = #[]
  rw[W.dum]
  simp[has]
 ·have hx:x∈(insertAt t.place (below t.place j) j).toList:=hx
  show x<=t.mask
  rw[hL]at hx
  rcases aJ.mp hx with z |z
  ·exact W.all x (eh z)
  ·rcases aI.mp z with rfl |z
   ·rw[<-hj];exact He t.mask h n
   ·exact W.all x (cU z)
 ·rw[hp,len]
  show(insertAt t.place (below t.place j) j).size=_
  rw[<-ah,hL,aU,aQ,aN,bC,ah,W.len]
  have:=W.len
  omega
 ·rw[hp,len];exact hr
 ·rw[hp]at hi
  have hx:(insertAt t.place (below t.place j) j)[i]? = some x:=hx
  rw[<-aw,hL]at hx
  have hg:∀ (y:Int),(hs.take (below t.place j)++h::hs.drop (below t.place j))[i]? = some y->rF t.mask (insertAt t.place (below t.place j) j).toList y x:=by
   intro y hy
   have up:∀ {y x},rF t.mask t.place.toList y x->rF t.mask (insertAt t.place (below t.place j) j).toList y x:=λ{y x} ⟨n,a,b⟩=>⟨n,a,λm hm=>tY _ (b m hm)⟩
   have hlt:(hs.take (below t.place j)).length=below t.place j:=by rw[aN];have:=W.len;omega
   have Jv:(t.place.toList.take (below t.place j)).length=below t.place j:=by rw[aN,ah];omega
   rcases Nat.lt_trichotomy i (below t.place j)with c |c |c
   ·rw[ba (by omega),cH c]at hx hy
    obtain⟨hl,e⟩:=af.mp hy
    have:=W.reach i hl x (by rw[<-aw];exact hx)
    rw[e]at this
    exact up this
   ·subst c
    rw[bf (by omega),hlt,cP]at hy
    rw[bf (by omega),Jv,cP]at hx
    simp at hx hy
    subst hx hy
    exact⟨n,hj,λm hm=>tY _ (hn m hm)⟩
   ·obtain⟨i,rfl⟩:∃ q,i=q+1:=⟨i-1,by omega⟩
    rw[bf (by omega),hlt,show i+1-below t.place j=(i-below t.place j)+1 by omega,List.getElem?_cons_succ,bE,show below t.place j+(i-below t.place j)=i by omega]at hy
    rw[bf (by omega),Jv,show i+1-below t.place j=(i-below t.place j)+1 by omega,List.getElem?_cons_succ,bE,show below t.place j+(i-below t.place j)=i by omega]at hx
    obtain⟨hl,e⟩:=af.mp hy
    have:=W.reach i hl x (by rw[<-aw];exact hx)
    rw[e]at this
    exact up this
  exact hg _ (ao hi)
open SetTable
noncomputable def qJ (owner:Array (Option Nat))(j:Nat):Prop:=∃ i,owner[j]? = some (some i)
variable {owner:Array (Option Nat)}
theorem CO (hz:owner.size=mask+1)(h:Int):∀ fuel r,(∃ r',r<=r'/\r'<r+fuel/\owner[(lpI mask h r').1]? = some none)->
  ∃ n j,layClean.free mask owner fuel (lpI mask h r).1 (lpI mask h r).2=some j/\lpT mask h r<=n/\(pAt mask h n).j=j/\owner[j]? = some none/\∀ m,lpT mask h r<=m->m<n->qJ owner (pAt mask h m).j:=by
 intro fuel
 induction fuel with
 |zero=>rintro r ⟨r',h1,h2,_⟩;omega
 |succ fuel ih=>
  rintro r ⟨r',h1,h2,h3⟩
  have hrm:=sY (AQ mask h r)
  have hrg:=wM mask (lpI mask h r).1
  have HI:∀ k,k<runEnd mask (lpI mask h r).1+1-(lpI mask h r).1->∃ o,owner[(lpI mask h r).1+k]? = some o/\owner.getD ((lpI mask h r).1+k) (some 0)=o:=λk hk=>by
   have hl:(lpI mask h r).1+k<owner.size:=by omega
   exact⟨owner[(lpI mask h r).1+k],aS hl,by simp[Array.getD,hl]⟩
  have hj:∀ k,k<runEnd mask (lpI mask h r).1+1-(lpI mask h r).1->(pAt mask h (lpT mask h r+k)).j=(lpI mask h r).1+k:=λk hk=>by
   rw[pC mask h r k (by omega)]
  unfold layClean.free
  cases hf:(List.range (runEnd mask (lpI mask h r).1+1-(lpI mask h r).1)).find? λk=>(owner.getD ((lpI mask h r).1+k) (some 0)).isNone with
  |some k=>
   dsimp only
   obtain⟨hk1,as,bs,hk2,hk3⟩:=List.find?_eq_some_iff_append.mp hf
   have hkm:k<runEnd mask (lpI mask h r).1+1-(lpI mask h r).1:=by
    have:=cZ hf
    simpa using this
   obtain⟨o,o1,o2⟩:=HI k hkm
   rw[o2]at hk1
   have:o=none:=by cases o with |none=>rfl |some _=>simp at hk1
   subst this
   refine⟨lpT mask h r+k,_,rfl,dN _ _,hj k hkm,o1,λm m1 m2=>?_⟩
   obtain⟨k',rfl⟩:∃ k',m=lpT mask h r+k':=⟨m-lpT mask h r,by omega⟩
   obtain⟨o',o3,o4⟩:=HI k' (by omega)
   rw[hj k' (by omega)]
   have hin:k'∈as:=by
    have e1:(List.range (runEnd mask (lpI mask h r).1+1-(lpI mask h r).1))[as.length]? = some k:=by rw[hk2];simp
    have e2:as.length=k:=by
     rw[af]at e1
     obtain⟨_,e1⟩:=e1
     simpa using e1
    have e3:(List.range (runEnd mask (lpI mask h r).1+1-(lpI mask h r).1))[k']? = some k':=by
     rw[List.getElem?_range (by omega)]
    rw[hk2,ba (by omega)]at e3
    exact aD e3
   have:=hk3 k' hin
   rw[o4]at this
   cases o' with
   |none=>simp at this
   |some i=>exact⟨i,o3⟩
  |none=>
   dsimp only
   have lJ:=List.find?_eq_none.mp hf
   have hno:∀ k,k<runEnd mask (lpI mask h r).1+1-(lpI mask h r).1->qJ owner ((lpI mask h r).1+k):=λk hk=>by
    obtain⟨o,o1,o2⟩:=HI k hk
    have:=lJ k (bT.mpr hk)
    rw[o2]at this
    cases o with
    |none=>simp at this
    |some i=>exact⟨i,o1⟩
   have hne:r'≠r:=by
    rintro rfl
    obtain⟨i,e⟩:=hno 0 (by omega)
    rw[cC,h3]at e
    cases e
   obtain⟨n,j,e1,e2,e3,e4,e5⟩:=ih (r+1) ⟨r',by omega,by omega,h3⟩
   refine⟨n,j,e1,bq (bZ (yf mask h r)) e2,e3,e4,λm m1 m2=>?_⟩
   by_cases c:m<lpT mask h (r+1)
   ·have c':m<lpT mask h r+(runEnd mask (lpI mask h r).1-(lpI mask h r).1)+1:=c
    obtain⟨k',rfl⟩:∃ k',m=lpT mask h r+k':=⟨m-lpT mask h r,by omega⟩
    rw[hj k' (by omega)]
    exact hno k' (by omega)
   ·exact e5 m (by omega) m2
structure Laid (mask:Nat)(hs:List Int)(owner:Array (Option Nat))(k:Nat):Prop where
 size:owner.size=mask+1
 only:∀ (j i:Nat),owner[j]? = some (some i)->i<k
 one:∀ (i j j':Nat),owner[j]? = some (some i)->owner[j']? = some (some i)->j=j'
 each:∀ i (h:i<hs.length),i<k->∃ (j n:Nat),owner[j]? = some (some i)/\(pAt mask hs[i] n).j=j/\∀ m,m<n->qJ owner (pAt mask hs[i] m).j
theorem CF {k:Nat}(L:Laid mask hs owner k)(hk:k<=mask):∃ j,j<=mask/\owner[j]? = some none:=by
 refine bB λc=>?_
 have lJ:∀ j,j<=mask->∃ i,owner[j]? = some (some i):=λj hj=>by
  have hl:j<owner.size:=by rw[L.size];omega
  cases e:owner[j]with
  |none=>exact(c ⟨j,hj,by rw[aS hl,e]⟩).elim
  |some i=>exact⟨i,by rw[aS hl,e]⟩
 let f:Nat->Nat:=λj=>match owner[j]? with |some (some i)=>i |_=>0
 have hf:∀ j,j<=mask->owner[j]? = some (some (f j)):=λj hj=>by
  obtain⟨i,e⟩:=lJ j hj
  show _=some (some (match owner[j]? with |some (some i)=>i |_=>0))
  rw[e]
 have:=@sub_len ((List.range (mask+1)).map f) (List.range k) (by
  rw[List.Nodup,ck]
  refine df (λ{a b} ha hb hab e=>?_) (List.nodup_range (n:=mask+1))
  have ha:=bT.mp ha
  have hb:=bT.mp hb
  have h1:=hf a (by omega)
  have h2:=hf b (by omega)
  rw[e]at h1
  exact hab (L.one _ _ _ h1 h2)) λx hx=>by
   obtain⟨j,hj,rfl⟩:=aH.mp hx
   exact bT.mpr (L.only j _ (hf j (by have:=bT.mp hj;omega)))
 rw[aa,dy,dy]at this
 omega
noncomputable def BD (mask:Nat)(acc:Option (Array (Option Nat)×Nat))(h:Int):Option (Array (Option Nat)×Nat):=do
  let (owner,k) <-acc
  let j <-layClean.free mask owner (turns mask) (bits h%(mask+1)) (bits h)
  pure (owner.setIfInBounds j (some k),k+1)
theorem Et {p:Nat}(hp:mask+1=2 ^ p){k:Nat}(L:Laid mask hs owner k)(hk:k<hs.length)(hm:hs.length<=mask):
  ∃ uJ,BD mask (some (owner,k)) hs[k]=some (uJ,k+1)/\Laid mask hs uJ (k+1):=by
 obtain⟨j0,h1,h2⟩:=CF L (by omega)
 obtain⟨r,r1,r2,r3⟩:=Bz hp hs[k] 0 h1
 obtain⟨n,j,e1,e2,e3,e4,e5⟩:=CO L.size hs[k] (turns mask) 0 ⟨r,by omega,by unfold turns;omega,by rw[r3];exact h2⟩
 refine⟨owner.setIfInBounds j (some k),?_,?_⟩
 ·have e1':layClean.free mask owner (turns mask) (bits hs[k]%(mask+1)) (bits hs[k])=some j:=e1
  show(layClean.free mask owner (turns mask) (bits hs[k]%(mask+1)) (bits hs[k]) >>= λj=>pure (owner.setIfInBounds j (some k),k+1))=_
  rw[e1'];rfl
 have hj:j<owner.size:=(bA.mp e4).1
 have zR:(owner.setIfInBounds j (some k))[j]? = some (some k):=by simp[hj]
 have CK:∀ x,x≠j->(owner.setIfInBounds j (some k))[x]? = owner[x]? :=λx hx=>by simp[Array.getElem?_setIfInBounds,bX hx]
 have up:∀ x,qJ owner x->qJ (owner.setIfInBounds j (some k)) x:=λx ⟨i,hi⟩=>by
  by_cases c:x=j
  ·subst c;exact⟨k,zR⟩
  ·exact⟨i,by rw[CK x c];exact hi⟩
 refine⟨by simp[L.size],λx i hx=>?_,λi x y hx hy=>?_,λi hi hik=>?_⟩
 ·by_cases c:x=j
  ·subst c;rw[zR]at hx;cases hx;omega
  ·rw[CK x c]at hx;have:=L.only x i hx;omega
 ·by_cases c:x=j
  ·by_cases d:y=j
   ·rw[c,d]
   ·subst c;rw[zR]at hx;cases hx
    rw[CK y d]at hy;have:=L.only y _ hy;omega
  ·rw[CK x c]at hx
   by_cases d:y=j
   ·subst d;rw[zR]at hy;cases hy;have:=L.only x _ hx;omega
   ·rw[CK y d]at hy;exact L.one i x y hx hy
 ·by_cases c:i=k
  ·subst c
   exact⟨j,n,zR,e3,λm hm=>up _ (e5 m (aP _) hm)⟩
  ·obtain⟨x,n',q1,q2,q3⟩:=L.each i hi (by omega)
   refine⟨x,n',?_,q2,λm hm=>up _ (q3 m hm)⟩
   rw[CK x (λz=>by subst z;rw[e4]at q1;cases q1)]
   exact q1
theorem BC {mask p:Nat}(hp:mask+1=2 ^ p)(hs:List Int)(hm:hs.length<=mask):∀ (rest:List Int) (k:Nat) (owner:Array (Option Nat)),hs.drop k=rest->k<=hs.length->Laid mask hs owner k->
  ∃ uJ,rest.foldl (BD mask) (some (owner,k))=some (uJ,hs.length)/\Laid mask hs uJ hs.length
 |[],k,owner,e,hk,L=>by
  have:k=hs.length:=by have:=cg List.length e;rw[bC]at this;simp at this;omega
  subst this
  exact⟨owner,rfl,L⟩
 |x::rest,k,owner,e,hk,L=>by
  have hlt:k<hs.length:=by have:=cg List.length e;rw[bC]at this;simp at this;omega
  have hx:hs[k]=x/\hs.drop (k+1)=rest:=by
   rw[dc hlt]at e
   injection e with a b
   exact⟨a,b⟩
  obtain⟨o',e1,L'⟩:=Et hp L hlt hm
  rw[hx.1]at e1
  obtain⟨o2,e2,L2⟩:=BC hp hs hm rest (k+1) o' hx.2 hlt L'
  exact⟨o2,by rw[List.foldl_cons,e1];exact e2,L2⟩
theorem zK {p:Nat}(hp:mask+1=2 ^ p){hs:Array Int}(hm:hs.size<=mask):∃ owner,layClean mask hs=some owner/\Laid mask hs.toList owner hs.size:=by
 obtain⟨o,e,L⟩:=BC hp hs.toList (by simpa using hm) hs.toList 0 (Array.replicate (mask+1) none) rfl (aP _)
  ⟨by simp,λj i h=>by simp[Array.getElem?_replicate]at h,λi j j' h=>by simp[Array.getElem?_replicate]at h,λi _ h=>by omega⟩
 refine⟨o,?_,by simpa using L⟩
 unfold layClean
 rw[<-Array.foldl_toList]
 have e':hs.toList.foldl (λacc h=>do
  let (owner,k) <-acc
  let j <-layClean.free mask owner (turns mask) (bits h%(mask+1)) (bits h)
  pure (owner.setIfInBounds j (some k),k+1)) (some (Array.replicate (mask+1) none,0))=some (o,hs.toList.length):=e
 rw[e']
 rfl
noncomputable def hU (mask:Nat)(owner:Array (Option Nat)):List (Nat×Nat):=(List.range (mask+1)).filterMap λj=>(owner.getD j none).map (j,·)
theorem jv (hz:owner.size=mask+1){i:Nat} :(j,i)∈hU mask owner↔owner[j]? = some (some i):=by
 unfold hU
 rw[eG]
 constructor
 ·rintro⟨x,hx,e⟩
  have hx:=bT.mp hx
  have hl:x<owner.size:=by omega
  have:owner.getD x none=owner[x]:=by simp[Array.getD,hl]
  rw[this]at e
  cases q:owner[x]with
  |none=>rw[q]at e;simp at e
  |some y=>
   rw[q]at e
   simp at e
   obtain⟨rfl,rfl⟩:=e
   rw[aS hl,q]
 ·intro h
  obtain⟨hl,e⟩:=bA.mp h
  refine⟨j,bT.mpr (by omega),?_⟩
  simp[Array.getD,hl,e]
theorem si (owner:Array (Option Nat))(mask:Nat):(hU mask owner).Pairwise λa b=>a.1<b.1:=by
 unfold hU
 rw[List.pairwise_filterMap]
 refine List.Pairwise.imp (λ{a b} hab x hx y hy=>?_) (List.pairwise_lt_range (n:=mask+1))
 rw[cx]at hx hy
 obtain⟨_,_,rfl⟩:=hx
 obtain⟨_,_,rfl⟩:=hy
 exact hab
theorem uF {l:List Nat}{n:Nat}(hn:l.Nodup)(h:∀ i,i∈l↔i<n):l.Perm (List.range n):=by
 refine(List.perm_ext_iff_of_nodup hn List.nodup_range).mpr λi=>?_
 rw[h i,bT]
theorem FL {p:Nat}(hp:mask+1=2 ^ p)(h3:3<=p){hs:Array Int}(hm:hs.size*5<mask*3)(hsm:mask<=8191)(fg mv:Nat)(led plain:Bool):
  ∃ t order,SetTable.laid mask fg mv led plain hs=some (t,order)/\t.led=led/\t.mask=mask/\order.toList.Perm (List.range hs.size)/\WFT t (order.toList.map λi=>hs.getD i 0):=by
 obtain⟨owner,e,L⟩:=zK hp (hs:=hs) (by omega)
 refine⟨_,_,by unfold SetTable.laid;rw[e];rfl,rfl,rfl,?_,?_⟩
 ·show((hU mask owner).map (·.2)).toArray.toList.Perm _
  rw[cq]
  refine uF ?_ λi=>?_
  ·rw[List.Nodup,ck]
   refine df (λ{a b} ha hb hab z=>?_) (si owner mask)
   have ha:=(jv L.size (j:=a.1) (i:=a.2)).mp ha
   have hb:=(jv L.size (j:=b.1) (i:=b.2)).mp hb
   rw[z]at ha
   have:=L.one _ _ _ ha hb
   omega
  ·rw[aH]
   constructor
   ·rintro⟨⟨j,i'⟩,hj,rfl⟩
    exact L.only j i' ((jv L.size).mp hj)
   ·intro hi
    obtain⟨j,n,e1,_⟩:=L.each i (by simpa using hi) hi
    exact⟨(j,i),(jv L.size).mpr e1,rfl⟩
 ·have w6:((hU mask owner).map (·.2)).Perm (List.range hs.size):=by
   refine uF ?_ λi=>?_
   ·rw[List.Nodup,ck]
    refine df (λ{a b} ha hb hab z=>?_) (si owner mask)
    have ha:=(jv L.size (j:=a.1) (i:=a.2)).mp ha
    have hb:=(jv L.size (j:=b.1) (i:=b.2)).mp hb
    rw[z]at ha
    have:=L.one _ _ _ ha hb
    omega
   ·rw[aH]
    constructor
    ·rintro⟨⟨j,i'⟩,hj,rfl⟩
     exact L.only j i' ((jv L.size).mp hj)
    ·intro hi
     obtain⟨j,n,e1,_⟩:=L.each i (by simpa using hi) hi
     exact⟨(j,i),(jv L.size).mpr e1,rfl⟩
  have hlen:(hU mask owner).length=hs.size:=by
   have:=w6.length_eq
   rw[aa,dy]at this
   exact this
  refine⟨⟨p,h3,hp⟩,hsm,rfl,?_,λj hj=>?_,?_,?_,λi hi j hj=>?_⟩
  ·show((hU mask owner).map (·.1)).toArray.toList.Pairwise (· < ·)
   rw[cq,ck]
   exact si owner mask
  ·have hj:j∈((hU mask owner).map (·.1)).toArray.toList:=hj
   rw[cq]at hj
   obtain⟨⟨a,b⟩,hab,rfl⟩:=aH.mp hj
   have:=(bA.mp ((jv L.size).mp hab)).1
   show a<=mask
   have:=L.size
   omega
  ·show((hU mask owner).map (·.1)).toArray.size=(((hU mask owner).map (·.2)).toArray.toList.map _).length
   simp
  ·show(((hU mask owner).map (·.2)).toArray.toList.map _).length*5<mask*3
   rw[cq,aa,aa,hlen]
   exact hm
  ·have hj:((hU mask owner).map (·.1)).toArray[i]? = some j:=hj
   rw[List.getElem?_toArray,aq]at hj
   have hi':i<(hU mask owner).length:=by simpa [hU]using hi
   rw[ao hi']at hj
   simp only[Option.map_some,Option.some.injEq]at hj
   have tY:(hU mask owner)[i]∈hU mask owner:=dQ hi'
   have ho:=(jv L.size (j:=(hU mask owner)[i].1) (i:=(hU mask owner)[i].2)).mp tY
   have hlt:=L.only _ _ ho
   obtain⟨j',n,e1,e2,e3⟩:=L.each (hU mask owner)[i].2 (by simpa using hlt) hlt
   have hjj:=L.one _ _ _ ho e1
   have hh:(((hU mask owner).map (·.2)).toArray.toList.map λi=>hs.getD i 0)[i]'(by simpa using hi')=hs.toList[(hU mask owner)[i].2]'(by simpa using hlt):=by
    simp[Array.getD,hlt]
   show rF mask _ _ j
   refine⟨n,?_,λm hm'=>?_⟩
   ·have:(pAt mask ((((hU mask owner).map (·.2)).toArray.toList.map λi=>hs.getD i 0)[i]'(by simpa using hi')) n).j=j:=by rw[hh,e2,<-hj,hjj]
    exact this
   ·have h5:=e3 m hm'
    have:(pAt mask ((((hU mask owner).map (·.2)).toArray.toList.map λi=>hs.getD i 0)[i]'(by simpa using hi')) m).j∈((hU mask owner).map (·.1)).toArray.toList:=by
     rw[hh,cq]
     obtain⟨i2,h6⟩:=h5
     exact aH.mpr ⟨(_,i2),(jv L.size).mpr h6,rfl⟩
    exact this
theorem qT:∀ fuel size n,(∃ k,3<=k/\size=2 ^ k)->n<size*2 ^ fuel->∃ k,3<=k/\sizeAbove.go n fuel size=2 ^ k/\n<sizeAbove.go n fuel size
 | 0,size,n,⟨k,hk,e⟩,h=>⟨k,hk,e,by simpa [sizeAbove.go]using h⟩
 |fuel+1,size,n,⟨k,hk,e⟩,h=>by
  unfold sizeAbove.go
  by_cases c:size<=n
  ·rw[aA c]
   exact qT fuel (size*2) n ⟨k+1,by omega,by rw[eD,e]⟩ (by rw[bY,<-Nat.pow_succ'];exact h)
  ·rw[au c]
   exact⟨k,hk,e,by omega⟩
theorem xD {n:Nat}(h:n<2 ^ 60):∃ k,3<=k/\sizeAbove n=2 ^ k/\n<sizeAbove n:=
 qT 64 8 n ⟨3,by decide,rfl⟩ (Nat.lt_trans h (by decide))
theorem qS:∀ fuel size n k,(∃ q,q<=k/\size=2 ^ q)->n<2 ^ k->sizeAbove.go n fuel size<=2 ^ k
 | 0,size,n,k,⟨q,h1,h2⟩,h=>by unfold sizeAbove.go;rw[h2];exact ef (by decide) h1
 |fuel+1,size,n,k,⟨q,h1,h2⟩,h=>by
  unfold sizeAbove.go
  by_cases c:size<=n
  ·rw[aA c]
   refine qS fuel (size*2) n k ⟨q+1,?_,by rw[h2,eD]⟩ h
   refine bB λz=>?_
   have:q=k:=by omega
   subst this
   omega
  ·rw[au c,h2];exact ef (by decide) h1
end TS
namespace TL
open PySem TS
variable {a b:Addr}{Q:Bool->Shared->Prop}{es:Array (Int×Value)}{t:SetTable}
section
variable {prog:Program}{w:World}{K:Type} [DecidableEq K] {knd:KeyKind prog w K}{A:Around}{E:Value->Shared->Prop}{s:Shared}
theorem tV (n:Nat){v:Value}(h:carriedByValue v=true):ofAClassStatement n v=pure false:=by
 cases v with
 |ref a=>simp[carriedByValue]at h
 |_=>unfold ofAClassStatement;rfl
theorem ug {ks:List K}(hk:IsTupleKey knd s.heap ks a)(h:Q false s):wpAny (model prog w) A (ofAClassStatement 8 (.ref a)) Q E s:=by
 have hT:=hk.typeIs
 obtain⟨o,items,n,ho,_,hd,hi⟩:=hk
 unfold ofAClassStatement
 refine ae (wpAny_typeOf hT ?_)
 dsimp only
 rw[aA (dH _)]
 refine ae (aj ?_)
 simp only[dg,aV,bQ]
 refine ae (wpAny_seqItems ho hd ?_)
 dsimp only
 refine ae ?_
 rw[<-Array.forIn_toList]
 refine wpAny_forIn_list _ (λrest r s'=>r.1=none/\s'=s/\∀ v∈rest,carriedByValue v=true) _ ?_ ?_ _ _ ⟨rfl,rfl,hi.byValue⟩
 ·rintro v rest r s' ⟨hr,rfl,lJ⟩
  rw[tV _ (lJ v az)]
  refine ae (aj ?_)
  simp only[aV,bQ]
  exact aj ⟨rfl,rfl,λu hu'=>lJ u (ar _ hu')⟩
 ·rintro⟨r1,r2⟩ s' ⟨hr,rfl,_⟩
  simp only at hr
  subst hr
  exact aj h
theorem zU (n:Nat){v:Value}(h:v.scannable=true):∃ b,hashByValue n v=pure b:=⟨_,hashByValue_scannable n h⟩
theorem B6 {ks:List K}(hk:IsTupleKey knd s.heap ks a)(hsc:∀ k v,knd.is k v=true->v.scannable=true)(h:∀ b,Q b s):wpAny (model prog w) A (hashByValue 8 (.ref a)) Q E s:=by
 have hT:=hk.typeIs
 obtain⟨o,items,n,ho,_,hd,hi⟩:=hk
 have lJ:∀ {x:List K}{vs:List Value},ItemsAre knd x vs->∀ v∈vs,v.scannable=true:=by
  intro x vs hx
  induction hx with
  |nil=>intro v hv;simp at hv
  |@cons k v' ks vs h1 _ ih=>
   intro v hv
   rcases aI.mp hv with rfl |hv
   ·exact hsc _ _ h1
   ·exact ih v hv
 unfold hashByValue
 refine ae (eI hT F.slot_tuple_hash.lookup ?_)
 show wpAny _ _ (seqItems? (.ref a) >>= _) _ _ s
 refine ae (wpAny_seqItems ho hd ?_)
 refine ae ?_
 show wpAny _ _ (forIn items _ _) _ _ s
 rw[<-Array.forIn_toList]
 refine wpAny_forIn_list _ (λrest r s'=>r.1=none/\s'=s/\∀ v∈rest,v.scannable=true) _ ?_ ?_ _ _ ⟨rfl,rfl,lJ hi⟩
 ·rintro v rest r s' ⟨hr,rfl,lJ⟩
  obtain⟨b,e⟩:=zU 7 (lJ v az)
  rw[e]
  refine ae (aj ?_)
  cases b with
  |true=>
   simp only[dg,aV,bQ]
   exact aj ⟨rfl,rfl,λu hu'=>lJ u (ar _ hu')⟩
  |false=>
   simp only[Bool.not_false,dt]
   exact aj (aj (h _))
 ·rintro⟨r1,r2⟩ s' ⟨hr,rfl,_⟩
  simp only at hr
  subst hr
  exact aj (h _)
theorem E9 {ks:List K}(hk:IsTupleKey knd s.heap ks a){ys:List Value}(hy:∀ y∈ys,∃ b js,y = .ref b/\IsTupleKey knd s.heap js b)(h:Q false s):
  wpAny (model prog w) A (searchCouldBeSeen (.ref a) ys) Q E s:=by
 unfold searchCouldBeSeen
 refine ae ?_
 refine wpAny_forIn_list _ (λrest r s'=>r.1=none/\s'=s/\∀ v∈rest,v∈ys) _ ?_ ?_ _ _ ⟨rfl,rfl,λ_ h=>h⟩
 ·rintro v rest r s' ⟨hr,rfl,lJ⟩
  obtain⟨b,js,rfl,hb⟩:=hy v (lJ v az)
  dsimp only
  by_cases c:(a==b||carriedByValue (Value.ref a)&&carriedByValue (Value.ref b))=true
  ·rw[aA c]
   exact aj ⟨rfl,rfl,λu hu'=>lJ u (ar _ hu')⟩
  ·rw[au c]
   refine ae (wpAny_eqIsQuiet_tuple hk ?_)
   simp only[dg,aV,bQ]
   refine ae (wpAny_eqIsQuiet_tuple hb ?_)
   simp only[dg,aV,bQ]
   refine ae (ug hk ?_)
   simp only[aV,bQ]
   refine ae (ug hb ?_)
   simp only[aV,bQ]
   exact aj ⟨rfl,rfl,λu hu'=>lJ u (ar _ hu')⟩
 ·rintro⟨r1,r2⟩ s' ⟨hr,rfl,_⟩
  simp only at hr
  subst hr
  exact aj h
theorem GN {α:Type}{c:Bool}{m:Sem Bool}{T U:Sem α}{Q:α->Shared->Prop}(h:wpAny (model prog w) A m (λb s'=>b=false/\s'=s) E s)(hT:wpAny (model prog w) A T Q E s):
  wpAny (model prog w) A (if c=true then m >>= λb=>if b=true then U else T else T) Q E s:=by
 cases c with
 |false=>rw[au aC];exact hT
 |true=>
  rw[aA rfl]
  refine ae (aY h (λb s' hb=>?_) λ_ _ h'=>h')
  obtain⟨rfl,rfl⟩:=hb
  rw[au aC]
  exact hT
noncomputable def yq (knd:KeyKind prog w K)(x:List K×Addr):Int×Value:=(tupleKeyHash knd x.1,.ref x.2)
noncomputable def nu (knd:KeyKind prog w K)(h:Heap)(a:Addr)(xs:List (List K×Addr)):Prop:=
 ∃ o es ep t,h.get? a=some o/\o.ExactSet/\o.data = .set es ep t/\es.toList=xs.map (yq knd)/\(xs.map (·.1)).Nodup/\WFT t (xs.map λx=>tupleKeyHash knd x.1)
theorem JC {xs:List (List K×Addr)}(he:es.toList=xs.map (yq knd))(i:Nat):es[i]? = (xs[i]?).map (yq knd):=by
 rw[<-aw,he,aq]
theorem vN {o:Obj}{ep:Nat}{xs:List (List K×Addr)}{k:List K}{sM:Bool}{Q:SetFound->Shared->Prop}(hu:A.units<cLine)
  (ho:s.heap.get? a=some o) (hd:o.data = .set es ep t) (he:es.toList=xs.map (yq knd)) (hnd:(xs.map (·.1)).Nodup) (W:WFT t (xs.map λx=>tupleKeyHash knd x.1))
  (hx:∀ x∈xs,IsTupleKey knd s.heap x.1 x.2) (hk:IsTupleKey knd s.heap k b) (m0:Nat) (hm0:(pAt t.mask (tupleKeyHash knd k) m0).j∉t.place.toList) (hm1:∀ m,m<m0->(pAt t.mask (tupleKeyHash knd k) m).j∈t.place.toList)
  (AW:∀ (i:Nat) y,xs[i]? = some (k,y)->Q (.there (if sM then none else some i)) s) (mZ:k∉xs.map (·.1)->Q (.free (pAt t.mask (tupleKeyHash knd k) m0).j false) s):
  ∀ (fuel n:Nat) (st:Option SetTable.Probe),m0<fuel+n->n<=m0->st.getD (t.probeStart (tupleKeyHash knd k))=pAt t.mask (tupleKeyHash knd k) n->(∀ m,m<n->∀ (i:Nat) y,t.place[i]? = some (pAt t.mask (tupleKeyHash knd k) m).j->xs[i]? ≠some (k,y))->
   wpAny (model prog w) A (setSearchFrom a (.ref b) (tupleKeyHash knd k) sM fuel st) Q E s:=by
 intro fuel
 induction fuel with
 |zero=>intro n st h1 h2;omega
 |succ fuel ih=>
  intro n st h1 h2 hst OR
  have hsz:es.size=xs.length:=by rw[<-ah,he,aa]
  have AZ:t.fits es.size=true:=by have:=W.fits;rw[aa]at this;rw[hsz];exact this
  unfold setSearchFrom
  refine ae (cY ho hd AZ ?_)
  dsimp only
  rw[W.OT]
  simp only[aV,bQ]
  rw[hst]
  obtain⟨m,g1,g2,g3,g4⟩:=Ay W (ha:=λi=>(es[i]?.map (·.1)).getD 0) (h:=tupleKeyHash knd k) (λi hi=>by
   rw[aa]at hi
   show((es[i]?).map (·.1)).getD 0=_
   rw[JC he,ao hi,bw,aq,ao hi];rfl) n
  generalize hP:t.probe _ (tupleKeyHash knd k) (pAt t.mask (tupleKeyHash knd k) n)=P
  have hP':P=some (vy t (tupleKeyHash knd k) m):=by rw[<-hP];exact g4
  subst hP'
  dsimp only
  have hmm:m<=m0:=bB λc=>g3 m0 h2 (by omega) (.inl hm0)
  unfold vy
  have hno:∀ q,q<m->∀ (i:Nat) y,t.place[i]? = some (pAt t.mask (tupleKeyHash knd k) q).j->xs[i]? ≠some (k,y):=λq hq i y hp hxi=>by
   by_cases c:q<n
   ·exact OR q c i y hp hxi
   ·refine g3 q (by omega) hq (.inr ⟨i,hp,?_⟩)
    rw[bw,aq,hxi];rfl
  by_cases hin:(pAt t.mask (tupleKeyHash knd k) m).j∈t.place.toList
  ·obtain⟨i,hi⟩:=Array.mem_iff_getElem?.mp (eu.mp hin)
   rw[nH W.rise hi]
   dsimp only
   have hil:i<xs.length:=by have:=(bA.mp hi).1;rw[W.len,aa]at this;exact this
   have hxi:xs[i]? = some (xs[i].1,xs[i].2):=ao hil
   have hei:es[i]? = some (tupleKeyHash knd xs[i].1,.ref xs[i].2):=by rw[JC he,hxi];rfl
   have hki:=hx xs[i] (dQ hil)
   refine GN (E9 hk (λy hy=>?_) ⟨rfl,rfl⟩) ?_
   ·obtain⟨z,hz,rfl⟩:=aH.mp hy
    rw[Array.toList_filter]at hz
    have hz:=(bV.mp hz).1
    rw[he]at hz
    obtain⟨q,hq,rfl⟩:=aH.mp hz
    exact⟨q.2,q.1,rfl,hx q hq⟩
   rw[hei]
   dsimp only
   refine ae (bh (wpAny_eqBool_tuple hu hki hk ?_))
   refine ae (cY ho hd AZ ?_)
   dsimp only
   by_cases hkk:xs[i].1=k
   ·have EC:xs[i]? = some (k,xs[i].2):=by rw[<-hkk];exact hxi
    rw[eF hkk]
    have q:=AW i _ EC
    cases sM with
    |true=>
     simp only[Bool.and_self,dt]
     exact aj q
    |false=>
     simp only[Bool.false_and,aV,bQ]
     have hsm:t.sameMemory t.moves t.mask=some true:=by unfold SetTable.sameMemory;simp
     rw[hsm]
     simp only[dt]
     rw[nH W.rise hi]
     dsimp only
     rw[hei]
     dsimp only
     refine ae (wpAny_isSame_ref_self ?_)
     refine ae (aj ?_)
     simp only[dt]
     exact aj q
   ·rw[bF hkk]
    simp only[Bool.and_false,aV,bQ]
    have hsm:t.sameMemory t.moves t.mask=some true:=by unfold SetTable.sameMemory;simp
    rw[hsm]
    simp only[dt]
    rw[nH W.rise hi]
    dsimp only
    rw[hei]
    dsimp only
    refine ae (wpAny_isSame_ref_self ?_)
    refine ae (aj ?_)
    simp only[dt]
    have hne:m≠m0:=λz=>hm0 (by rw[<-z];exact hin)
    refine ih (m+1) (some _) (by omega) (by omega) rfl λq hq i' y hp EC=>?_
    by_cases c:q<m
    ·exact hno q c i' y hp EC
    ·have:q=m:=by omega
     subst this
     have e1:=below_at W.rise hp
     have e2:=below_at W.rise hi
     have:i'=i:=by omega
     subst this
     rw[hxi]at EC
     cases EC
     exact hkk rfl
  ·rw[uq W.dum hin]
   dsimp only
   have hme:m=m0:=bB λc=>hin (hm1 m (by omega))
   subst hme
   refine aj (mZ λtY=>?_)
   obtain⟨x,hx1,hx2⟩:=aH.mp tY
   obtain⟨i,hi1⟩:=cQ.mp hx1
   have hil:i<xs.length:=(af.mp hi1).1
   have hip:i<t.place.size:=by rw[W.len,aa];exact hil
   have hxk:xs[i].1=k:=by rw[<-hx2];congr 1;exact(af.mp hi1).2
   obtain⟨nn,r1,r2⟩:=W.reach i (by rw[aa];exact hil) _ (aS hip)
   have hh:(xs.map λx=>tupleKeyHash knd x.1)[i]'(by rw[aa];exact hil)=tupleKeyHash knd k:=by rw[List.getElem_map,hxk]
   rw[hh]at r1 r2
   rcases Nat.lt_trichotomy nn m with c |c |c
   ·exact hno nn c i x.2 (by rw[r1];exact aS hip) (by rw[hi1,<-hx2])
   ·subst c
    exact hin (by rw[r1];simp)
   ·exact hin (r2 m c)
end
variable {order:List Nat}
section
variable {prog:Program}{w:World}{K:Type} [DecidableEq K] {knd:KeyKind prog w K}{A:Around}{E:Value->Shared->Prop}{s:Shared}
theorem B7 {hs:List Int}(W:WFT t hs)(h:Int):∃ m0,m0<100000/\(pAt t.mask h m0).j∉t.place.toList/\∀ m,m<m0->(pAt t.mask h m).j∈t.place.toList:=by
 obtain⟨k,_,hk⟩:=W.pow
 obtain⟨j,hj,hf⟩:=@wJ t.place.toList t.mask (by
  have:=W.room;have h1:=W.len
  rw[ah];omega)
 obtain⟨m,h1,h2,e⟩:=Bu hk h 0 hj
 obtain⟨e',h3,h4,h5⟩:=sA (P:=λn=>(pAt t.mask h n).j∉t.place.toList) m 0 (by rw[cB,e];exact hf)
 rw[cB]at h4
 refine⟨e',?_,h4,λq hq=>bB λc=>h5 q (aP _) (by omega) c⟩
 have:=W.small
 unfold SetTable.turns at h2
 omega
theorem wB {o:Obj}{ep:Nat}{xs:List (List K×Addr)}{k:List K}{sM:Bool}{Q:SetFound->Shared->Prop}(hu:A.units<cLine)
  (ho:s.heap.get? a=some o) (hd:o.data = .set es ep t) (he:es.toList=xs.map (yq knd)) (hnd:(xs.map (·.1)).Nodup) (W:WFT t (xs.map λx=>tupleKeyHash knd x.1))
  (hx:∀ x∈xs,IsTupleKey knd s.heap x.1 x.2) (hk:IsTupleKey knd s.heap k b)
  (AW:∀ (i:Nat) y,xs[i]? = some (k,y)->Q (.there (if sM then none else some i)) s)
  (mZ:k∉xs.map (·.1)->∀ m0,(pAt t.mask (tupleKeyHash knd k) m0).j∉t.place.toList->(∀ m,m<m0->(pAt t.mask (tupleKeyHash knd k) m).j∈t.place.toList)->Q (.free (pAt t.mask (tupleKeyHash knd k) m0).j false) s):
  wpAny (model prog w) A (setSearch a (.ref b) (tupleKeyHash knd k) sM) Q E s:=by
 obtain⟨m0,g1,g2,g3⟩:=B7 W (tupleKeyHash knd k)
 exact vN hu ho hd he hnd W hx hk m0 g2 g3 AW (λh=>mZ h m0 g2 g3) 100000 0 none (by omega) (aP _) rfl λm hm=>by omega
theorem vG (b:Addr)(es:Array (Int×Value)):byScan (.ref b) es=false:=by simp[byScan,Value.scannable]
theorem Dr {xs:List (List K×Addr)}{k:List K}{Q:Option Nat->Shared->Prop}(hu:A.units<cLine)(hS:nu knd s.heap a xs)(hx:∀ x∈xs,IsTupleKey knd s.heap x.1 x.2)(hk:IsTupleKey knd s.heap k b)
  (h:∀ r:Option Nat,r.isSome=decide (k∈xs.map (·.1))->Q r s):wpAny (model prog w) A (setFind a (.ref b) (tupleKeyHash knd k)) Q E s:=by
 obtain⟨o,es,ep,t,ho,hex,hd,he,hnd,W⟩:=hS
 have hsz:es.size=xs.length:=by rw[<-ah,he,aa]
 have AZ:t.fits es.size=true:=by have:=W.fits;rw[aa]at this;rw[hsz];exact this
 unfold setFind setFindIn
 refine ae (cY ho hd AZ ?_)
 dsimp only
 rw[vG]
 simp only[aV,bQ]
 refine ae (wB hu ho hd he hnd W hx hk (λi y hi=>?_) λhn m0 _ _=>?_)
 ·refine aj (h _ ?_)
  have:k∈xs.map (·.1):=aH.mpr ⟨_,aD hi,rfl⟩
  simp[this]
 ·refine aj (h _ ?_)
  rw[bF hn];rfl
theorem nu.typeIs {xs:List (List K×Addr)}(hS:nu knd s.heap a xs):s.TypeIs (.ref a) "set" :=let ⟨o,_,_,_,ho,hc,_⟩:=hS;⟨o,ho,hc.1⟩
theorem nu.noDict {xs:List (List K×Addr)}(hS:nu knd s.heap a xs):∀ b,Value.ref a = .ref b->∃ ob,s.heap.get? b=some ob/\ob.dict=none:=
 λb e=>by injection e with e;subst e;exact let ⟨o,_,_,_,ho,hc,_⟩:=hS;⟨o,ho,hc.2.1⟩
theorem xr {xs:List (List K×Addr)}{k:List K}(hu:A.units+1<cLine)(hS:nu knd s.heap a xs)(hx:∀ x∈xs,IsTupleKey knd s.heap x.1 x.2)(hk:IsTupleKey knd s.heap k b)
  (h:∀ c:Bool,(c=true↔k∈xs.map (·.1))->Q c {s with toks:=s.toks+(k.length+1)}):wpAny (model prog w) A (contains (.ref a) (.ref b)) Q E s:=by
 unfold contains
 try with_reducible refine bh ?_
 refine ae (eI hS.typeIs F.slot_set_contains.lookup ?_)
 show wpAny _ _ (if(some (Value.builtin "set.__contains__")==some Value.none)=true then _ else _) _ E s
 rw[au (by rw[beq_builtin_none];exact aC)]
 refine ae (wpAny_callSpecialUnlessNone?_slot (name:=Str.ofString "__contains__") hS.typeIs F.slot_set_contains
  (wpAny_call_entry F.slot_set_contains hS.typeIs entry_set_contains ?_ (F.args_set_contains_2 _ _)))
 unfold Builtin.«frozenset.__contains__» Builtin.Frozenset.oneOther
 simp only[List.isEmpty_nil,bind_assoc]
 unfold Builtin.Frozenset.addrOf Builtin.Frozenset.withSetAsKey setContains
 refine ae (aj ?_)
 try dsimp only
 refine ae (aj ?_)
 try dsimp only
 refine ae (wpAny_tryCatch ?_)
 refine bh ?_
 refine ae (wpAny_pyHash_tuple (tupleKind_room_in1 (knd:=knd) hu) hk ?_)
 refine ae (Dr (s:={s with toks:=s.toks+(k.length+1)}) (tupleKind_room_in1 (knd:=knd) hu) hS hx hk λr hr=>?_)
 refine aj ?_
 show wpAny _ _ (ret (Value.bool r.isSome)) _ _ _
 rw[hr]
 exact aj ⟨_,rfl,cJ (h _ eE)⟩
theorem Dx {h:Heap}{o:Obj}{ep:Nat}(ho:h.get? a=some o)(hd:o.data = .set es ep t)(es':Array (Int×Value))(t':SetTable):
  (h.update a (Obj.putSet es' t')).get? a=some {o with data:=.set es' (ep+1) t'} :=by
 have:=Heap.get?_update_self (Obj.putSet es' t') ho (by rw[putSet_of es' t' hd];rfl)
 rw[putSet_of es' t' hd]at this;exact this
theorem vZ {α:Type}{xs:List α}(hp:order.Perm (List.range xs.length)):(order.filterMap λi=>xs[i]?).Perm xs:=by
 have:=hp.filterMap (λi=>xs[i]?)
 rw[List.filterMap_getElem?_range_length]at this
 exact this
theorem lS {α β:Type}(f:α->β){xs:List α} :(order.filterMap λi=>(xs.map f)[i]?)=(order.filterMap λi=>xs[i]?).map f:=by
 rw[List.map_filterMap]
 congr 1
 funext i
 rw[aq]
theorem AB {hs:List Int}(hp:order.Perm (List.range hs.length)):(order.map λi=>hs.getD i 0)=order.filterMap λi=>hs[i]? :=by
 have lJ:∀ i∈order,i<hs.length:=λi hi=>bT.mp (hp.mem_iff.mp hi)
 clear hp
 induction order with
 |nil=>rfl
 |cons x l ih=>
  have hx:=lJ x az
  rw[bt,cu,ao hx,ih λi hi=>lJ i (ar _ hi),bw,ao hx]
  rfl
theorem vq {α β:Type}(f:α->β)(xs:List α)(x:α)(p:Nat):(xs.map f).take p++f x::(xs.map f).drop p=(xs.take p++x::xs.drop p).map f:=by
 rw[aX,bt,dX,dY]
theorem sU {o:Obj}{ep:Nat}{xs:List (List K×Addr)}{k:List K}
  (ho:s.heap.get? a=some o) (hex:o.ExactSet) (hd:o.data = .set es ep t) (he:es.toList=xs.map (yq knd)) (hnd:(xs.map (·.1)).Nodup) (W:WFT t (xs.map λx=>tupleKeyHash knd x.1)) (vt:xs.length<2000)
  (hn:k∉xs.map (·.1)) {m0:Nat} (g1:(pAt t.mask (tupleKeyHash knd k) m0).j∉t.place.toList) (g2:∀ m,m<m0->(pAt t.mask (tupleKeyHash knd k) m).j∈t.place.toList)
  (ym:∀ h' xs',Heap.SameBut a s.heap h'->nu knd h' a xs'->xs'.Perm (xs ++ [(k,b)])->Q true {s with heap:=h'}) {t2:SetTable}{c:Bool} (ht:t2 = {(t.put (pAt t.mask (tupleKeyHash knd k) m0).j).1 with plain:=c}) {n:Nat} (hnn:n=es.size+1):
  wpAny (model prog w) A (do
   storeSet a (SetTable.insertAt es (t.put (pAt t.mask (tupleKeyHash knd k) m0).j).2 (tupleKeyHash knd k,Value.ref b)) t2
   if(!false&&t2.tooFull)=true then do
    setRelay a (SetTable.grown n)
    pure true
   else pure true) Q E s:=by
 have hsz:es.size=xs.length:=by rw[<-ah,he,aa]
 generalize hp:(t.put (pAt t.mask (tupleKeyHash knd k) m0).j).2=p
 have hp':p=SetTable.below t.place (pAt t.mask (tupleKeyHash knd k) m0).j:=by rw[<-hp];rfl
 have Sk:p<=xs.length:=by
  have h1:=(oF W.rise (pAt t.mask (tupleKeyHash knd k) m0).j).1
  have h2:=W.len
  rw[aa]at h2
  omega
 generalize hes:SetTable.insertAt es p (tupleKeyHash knd k,Value.ref b)=es1
 have he1:es1.toList=(xs.take p++(k,b)::xs.drop p).map (yq knd):=by
  rw[<-hes,dw,he]
  exact vq (yq knd) xs (k,b) p
 have w6:(xs.take p++(k,b)::xs.drop p).Perm (xs ++ [(k,b)]):=by
  refine cW.trans ?_
  rw[cy]
  exact(List.perm_append_singleton (k,b) xs).symm
 have hl1:(xs.take p++(k,b)::xs.drop p).length=xs.length+1:=by rw[w6.length_eq];simp
 have hs1:es1.size=xs.length+1:=by rw[<-ah,he1,aa,hl1]
 have Ju:((xs.take p++(k,b)::xs.drop p).map (·.1)).Nodup:=by
  refine(w6.map (·.1)).nodup_iff.mpr ?_
  rw[aX]
  refine cS.mpr ⟨hnd,by simp,λx hx y hy=>?_⟩
  simp at hy
  subst hy
  exact λz=>hn (z ▸ hx)
 have hh1:(xs.take p++(k,b)::xs.drop p).map (λx=>tupleKeyHash knd x.1)=(xs.map λx=>tupleKeyHash knd x.1).take p++tupleKeyHash knd k::(xs.map λx=>tupleKeyHash knd x.1).drop p:=
  (vq (λx=>tupleKeyHash knd x.1) xs (k,b) p).symm
 have Gx:t2.mask=t.mask:=by rw[ht];rfl
 have Jq:t2.place.size=xs.length+1:=by
  have h2:=W.len
  rw[aa]at h2
  have:t2.place=SetTable.insertAt t.place p (pAt t.mask (tupleKeyHash knd k) m0).j:=by rw[ht,hp'];rfl
  rw[this,<-ah,dw,aU,aQ,aN,bC,ah]
  omega
 have Jz:t2.dummies = #[]:=by
  rw[ht]
  show(if SetTable.has t.dummies _ then SetTable.eraseAt t.dummies _ else t.dummies) = #[]
  rw[W.dum]
  simp[SetTable.has]
 have Gz:t2.fill=xs.length+1:=by unfold SetTable.fill;rw[Jq,Jz];rfl
 have HD:=W.room
 rw[aa]at HD
 have h7:7<=t.mask:=by
  obtain⟨q,q1,q2⟩:=W.pow
  have:2 ^ 3<=2 ^ q:=ef (by decide) q1
  omega
 have hz1:es1.size<=sizeLine:=by rw[hs1,aM];omega
 refine ae (wpAny_storeSet_of ho hd ?_ hz1)
 have ho1:=Dx ho hd es1 t2
 have sb1:Heap.SameBut a s.heap (s.heap.update a (Obj.putSet es1 t2)):=Heap.SameBut.update s.heap a (Obj.putSet es1 t2)
 by_cases full:t2.tooFull=true
 ·rw[full]
  simp only[Bool.not_false,Bool.and_self,dt]
  unfold setRelay
  have Jy:t2.fits es1.size=true:=by
   simp only[SetTable.fits,Gz,Jq,hs1,dH,Bool.true_and,du,Gx]
   omega
  refine ae (ae (cY (s:={s with heap:=s.heap.update a (Obj.putSet es1 t2)}) ho1 rfl Jy ?_))
  dsimp only
  have hgr:SetTable.grown n=4*(xs.length+1):=by
   unfold SetTable.grown
   rw[au (by omega)]
   omega
  obtain⟨q,q1,q2,q3⟩:=xD (n:=SetTable.grown n) (by rw[hgr];omega)
  have hle:SetTable.sizeAbove (SetTable.grown n)<=2 ^ 13:=qS 64 8 _ 13 ⟨3,by decide,rfl⟩ (by rw[hgr];omega)
  rw[au (by rw[aM];omega)]
  generalize OQ:SetTable.sizeAbove (SetTable.grown n)=big at q2 q3 hle
  have hhs:(es1.map (·.1)).toList=(xs.take p++(k,b)::xs.drop p).map (λx=>tupleKeyHash knd x.1):=by
   rw[Array.toList_map,he1,br];rfl
  have Jw:(es1.map (·.1)).size=xs.length+1:=by rw[Array.size_map];exact hs1
  have hb8:2 ^ 13=8192:=by decide
  obtain⟨t3,order,e3,_,_,pe,W3⟩:=FL (mask:=big-1) (p:=q) (by omega) q1 (hs:=es1.map (·.1)) (by rw[Jw];omega) (by omega) t2.finger (t2.movedTo (big-1)) t2.led t2.plain
  have e3':t2.relaid (es1.map (·.1)) (SetTable.grown n)=some (t3,order):=by
   unfold SetTable.relaid
   rw[OQ];exact e3
  rw[e3']
  refine ae ?_
  have pe':order.toList.Perm (List.range (xs.take p++(k,b)::xs.drop p).length):=by rw[hl1,<-Jw];exact pe
  have he2:(order.filterMap (es1[·]?)).toList=((order.toList.filterMap λi=>(xs.take p++(k,b)::xs.drop p)[i]?)).map (yq knd):=by
   rw[Array.toList_filterMap,<-lS,<-he1]
   congr 1
   funext i
   rw[aw]
  have hpm:=vZ pe'
  have hs2:(order.filterMap (es1[·]?)).size=es1.size:=by
   rw[<-ah,he2,aa,hpm.length_eq,hl1,hs1]
  have hne:((order.filterMap (es1[·]?)).size !=es1.size)=false:=by rw[hs2];simp
  show wpAny _ _ (if((order.filterMap (es1[·]?)).size !=es1.size)=true then _ else _) _ _ _
  rw[hne,au aC]
  refine aj ?_
  dsimp only
  refine wpAny_storeSet_of (s:={s with heap:=s.heap.update a (Obj.putSet es1 t2)}) ho1 rfl ?_ (by rw[hs2];exact hz1)
  refine aj (ym _ _ (sb1.trans (Heap.SameBut.update _ a _)) ⟨_,_,_,t3,Dx ho1 rfl _ _,hex,rfl,he2,?_,?_⟩ (hpm.trans w6))
  ·exact((hpm.map (·.1)).nodup_iff).mpr Ju
  ·have:(order.toList.map λi=>(es1.map (·.1)).getD i 0)=(order.toList.filterMap λi=>(xs.take p++(k,b)::xs.drop p)[i]?).map (λx=>tupleKeyHash knd x.1):=by
    rw[<-lS,<-hhs,<-AB (by rw[hhs,aa];exact pe')]
    congr 1
    funext i
    simp[bg,bw]
   rw[<-this]
   exact W3
 ·have BI:t2.tooFull=false:=by cases h:t2.tooFull with |false=>rfl |true=>exact(full h).elim
  rw[BI]
  simp only[Bool.and_false,aV,bQ]
  refine aj (ym _ _ sb1 ⟨_,es1,ep+1,t2,ho1,hex,rfl,he1,Ju,?_⟩ w6)
  rw[hh1,ht,<-hp]
  refine W.put g1 g2 c ?_
  rw[aa]
  unfold SetTable.tooFull at BI
  rw[Gz,Gx]at BI
  simp at BI
  omega
theorem vO {xs:List (List K×Addr)}{k:List K}(hu:A.units<cLine)(hsc:∀ k v,knd.is k v=true->v.scannable=true)(hS:nu knd s.heap a xs)
  (hx:∀ x∈xs,IsTupleKey knd s.heap x.1 x.2) (hk:IsTupleKey knd s.heap k b) (vt:xs.length<2000)
  (hold:k∈xs.map (·.1)->Q false s) (ym:k∉xs.map (·.1)->∀ h' xs',Heap.SameBut a s.heap h'->nu knd h' a xs'->xs'.Perm (xs ++ [(k,b)])->Q true {s with heap:=h'}):
  wpAny (model prog w) A (setAddHashed a (.ref b) (tupleKeyHash knd k)) Q E s:=by
 obtain⟨o,es,ep,t,ho,hex,hd,he,hnd,W⟩:=hS
 have hsz:es.size=xs.length:=by rw[<-ah,he,aa]
 have AZ:t.fits es.size=true:=by have:=W.fits;rw[aa]at this;rw[hsz];exact this
 unfold setAddHashed setAddHashedIn
 refine bh (ae (cY ho hd AZ ?_))
 dsimp only
 rw[vG]
 simp only[aV,bQ]
 refine ae (wB hu ho hd he hnd W hx hk (λi y hi=>?_) λhn m0 g1 g2=>?_)
 ·exact aj (hold (aH.mpr ⟨_,aD hi,rfl⟩))
 ·dsimp only
  refine ae (cY ho hd AZ ?_)
  dsimp only
  have tl:∀ (bv:Bool),wpAny (model prog w) A (do
   storeSet a (SetTable.insertAt es (t.put (pAt t.mask (tupleKeyHash knd k) m0).j).2 (tupleKeyHash knd k,Value.ref b)) (if bv=true then(t.put (pAt t.mask (tupleKeyHash knd k) m0).j).1 else {(t.put (pAt t.mask (tupleKeyHash knd k) m0).j).1 with plain:=false})
   if(!false&&(if bv=true then(t.put (pAt t.mask (tupleKeyHash knd k) m0).j).1 else {(t.put (pAt t.mask (tupleKeyHash knd k) m0).j).1 with plain:=false}).tooFull)=true then do
    setRelay a (SetTable.grown (es.size+1))
    pure true
   else pure true) Q E s:=λbv=>by
   cases bv with
   |true=>exact sU ho hex hd he hnd W vt hn g1 g2 (ym hn) (c:=(t.put (pAt t.mask (tupleKeyHash knd k) m0).j).1.plain) (by rw[aA rfl]) rfl
   |false=>exact sU ho hex hd he hnd W vt hn g1 g2 (ym hn) (c:=false) (by rw[au aC]) rfl
  split
  ·exact ae (B6 hk hsc tl)
  ·exact ae (aj (tl true))
theorem Fb {xs:List (List K×Addr)}{k:List K}(hu:A.units<cLine)(hsc:∀ k v,knd.is k v=true->v.scannable=true)(hS:nu knd s.heap a xs)
  (hx:∀ x∈xs,IsTupleKey knd s.heap x.1 x.2) (hk:IsTupleKey knd s.heap k b) (vt:xs.length<2000)
  (hold:k∈xs.map (·.1)->Q false {s with toks:=s.toks+(k.length+1)}) (ym:k∉xs.map (·.1)->∀ h' xs',Heap.SameBut a s.heap h'->nu knd h' a xs'->xs'.Perm (xs ++ [(k,b)])->Q true {s with heap:=h',toks:=s.toks+(k.length+1)}):
  wpAny (model prog w) A (setAdd a (.ref b)) Q E s:=by
 unfold setAdd
 refine bh ?_
 refine ae (wpAny_pyHash_tuple hu hk ?_)
 exact vO (s:={s with toks:=s.toks+(k.length+1)}) hu hsc hS hx hk vt hold ym
theorem wx {xs:List (List K×Addr)}{k:List K}{Q:Value->Shared->Prop}(hu:A.units+1<cLine)(hsc:∀ k v,knd.is k v=true->v.scannable=true)(hS:nu knd s.heap a xs)
  (hx:∀ x∈xs,IsTupleKey knd s.heap x.1 x.2) (hk:IsTupleKey knd s.heap k b) (vt:xs.length<2000)
  (hold:k∈xs.map (·.1)->Q .none {s with toks:=s.toks+(k.length+1)}) (ym:k∉xs.map (·.1)->∀ h' xs',Heap.SameBut a s.heap h'->nu knd h' a xs'->xs'.Perm (xs ++ [(k,b)])->Q .none {s with heap:=h',toks:=s.toks+(k.length+1)}):
  wpAny (model prog w) A (call (.builtin "set.add") [.ref a,.ref b]) Q E s:=by
 refine wpAny_call_entry F.slot_set_add hS.typeIs F.entry_set_add ?_ (F.args_set_add_2 _ _)
 unfold Builtin.«set.add» Builtin.Frozenset.oneOther
 simp only[List.isEmpty_nil,bind_assoc]
 unfold Builtin.Frozenset.addrOf
 refine ae (aj ?_)
 try dsimp only
 refine ae (aj ?_)
 try dsimp only
 refine ae (Fb (tupleKind_room_in1 (knd:=knd) hu) hsc hS hx hk vt (λz=>?_) λz h' xs' q1 q2 q3=>?_)
 ·show wpAny _ _ (ret Value.none) _ _ _
  exact aj ⟨_,rfl,hold z⟩
 ·show wpAny _ _ (ret Value.none) _ _ _
  exact aj ⟨_,rfl,ym z h' xs' q1 q2 q3⟩
end
open PySem.Spec PyProof.Rows L2
noncomputable def sP (P:Program)(w:World)(a:Addr)(xs:List (List Key×Addr)):HO:=.ext λh=>nu (iu P w) h a xs
noncomputable abbrev keysOf (xs:List (List Key×Addr)):List (List Key):=xs.map λx=>x.1
noncomputable def inK (k:List Key)(xs:List (List Key×Addr)):Bool:=xs.any λx=>decide (x.1=k)
theorem yk {k:List Key}{xs:List (List Key×Addr)} :inK k xs=true↔k∈keysOf xs:=by
 unfold inK keysOf
 rw[List.any_eq_true,aH]
 exact⟨λ⟨x,h,e⟩=>⟨x,h,eN e⟩,λ⟨x,h,e⟩=>⟨x,h,eF e⟩⟩
noncomputable def vK (K:PySem.W.Frag)(H:Hp)(xs:List (List Key×Addr)):Prop:=∀ x∈xs,SqT K H x.2 (x.1.map kV)
theorem Ej {P:Program}{w:World} :∀ (k:Key) (v:Value),(iu P w).is k v=true->v.scannable=true:=λk v h=>by
 rcases h9 (k:=k) (v:=v) h with⟨i,t,_,rfl⟩|⟨x,t,_,rfl⟩<;>rfl
theorem nu.qi {P:Program}{w:World}{h1 h2:Heap}{xs:List (List Key×Addr)}(p:nu (iu P w) h1 a xs)(k:∀ o,h1.get? a=some o->h2.get? a=some o):nu (iu P w) h2 a xs:=by
 obtain⟨o,es,ep,t,ho,r⟩:=p
 exact⟨o,es,ep,t,k _ ho,r⟩
theorem nu.obj {P:Program}{w:World}{h:Heap}{H:Hp}{xs:List (List Key×Addr)}(p:nu (iu P w) h a xs):iZ P w H h a (sP P w a xs):=by
 obtain⟨o,es,ep,t,ho,r⟩:=id p
 exact⟨p,⟨o,ho⟩,λh1 h2 q k=>q.qi k⟩
section
variable {X:Cx}{pins:List (Addr×Obj)}{σ:St}{H:Hp}{s:Shared}
theorem Inv.G1 {l:Addr}{xs:List (List Key×Addr)}(I:Inv X pins σ H s)(h:H l=some (sP X.prog X.w l xs)):nu (iu X.prog X.w) s.heap l xs:=(I.hok l _ h).1
theorem Inv.Hx {k:List Key}(I:Inv X pins σ H s)(h:SqT X.K H b (k.map kV)):IsTupleKey (iu X.prog X.w) s.heap k b:=by
 obtain⟨its,r,⟨o,h1,h2,n,h3⟩,z⟩:=I.tuple h
 exact⟨o,its.toArray,n,h1,h2,h3,by simpa using w5 r⟩
theorem Inv.Gv {xs:List (List Key×Addr)}(I:Inv X pins σ H s)(h:vK X.K H xs):∀ x∈xs,IsTupleKey (iu X.prog X.w) s.heap x.1 x.2:=λx hx=>Inv.Hx I (h x hx)
theorem Hh (hu:X.A.units+1<cLine):OpR X (compareOp .In) (λx y H Q=>∃ (l:Addr) (xs:List (List Key×Addr)) (k:List Key) (b:Addr),x = .ref b/\y = .ref l/\H l=some (sP X.prog X.w l xs)/\vK X.K H xs/\SqT X.K H b (k.map kV)/\Q (.bl (inK k xs)) H):=by
 intro pins s σ H x y v u Q I rx ry h
 obtain⟨l,xs,k,b,rfl,rfl,hH,ht,hb,q⟩:=h
 cases rx
 cases ry
 show wpAny _ _ (do return Value.bool (<-contains (.ref l) (.ref b))) _ _ s
 refine ae (xr hu (Inv.G1 I hH) (Inv.Gv I ht) (Inv.Hx I hb) λc hc=>?_)
 have e:c=inK k xs:=cn.mpr (hc.trans yk.symm)
 exact aj ⟨.bl (inK k xs),H,I.tok _,(by rw[e];rfl),q⟩
noncomputable def G6 (P:Program)(w:World)(K:PySem.W.Frag):V->List V->Hp->VK->Prop:=λx vs H Q=>∃ (l:Addr) (xs:List (List Key×Addr)) (k:List Key) (b:Addr),x = .ref l/\vs = [.ref b]/\H l=some (sP P w l xs)/\vK K H xs/\SqT K H b (k.map kV)/\xs.length<2000/\
 (k∈keysOf xs->Q .non H)/\(k∉keysOf xs->∀ xs',xs'.Perm (xs ++ [(k,b)])->Q .non (upd H l (sP P w l xs')))
theorem Eg (hu:X.A.units+1<cLine):MtR X "set.add" (G6 X.prog X.w X.K):=by
 intro pins s σ H x vs v us Q I rx rv h
 obtain⟨l,xs,k,b,rfl,rfl,hH,ht,hb,hz,q1,q2⟩:=h
 cases rx
 obtain⟨u,rfl,rb⟩:=rv.one
 cases rb
 refine wx hu Ej (Inv.G1 I hH) (Inv.Gv I ht) (Inv.Hx I hb) hz (λz=>⟨.non,H,I.tok _,rfl,q1 z⟩) λz h' xs' sb hS p=>?_
 refine⟨.non,_,I.write (t':=s.toks+(k.length+1)) (o:=sP X.prog X.w l xs') (x:=l) (e:=l) (by rw[hH];exact trivial) (.inl rfl) (λb u hb e=>sb.extBut b u hb e) ?_ hS.obj,rfl,q2 z xs' p⟩
 obtain⟨o,_,_,_,e,_⟩:=hS;exact⟨o,e⟩
theorem A5:jN X (.type "set") (λxs H Q=>xs = []/\∀ p,H p=none->Q (.ref p) (upd H p (sP X.prog X.w p []))):=by
 intro pins s σ H xs us Q I r h
 obtain⟨rfl,q⟩:=h
 cases r
 refine call_set_0 λled=>?_
 have hS:nu (iu X.prog X.w) (s.heap.push {cls:=.type "set",dict:=none,data:=.set #[] 0 (.fresh 0 0 led)}) s.heap.objs.size []:=
  ⟨_,#[],0,_,aR _ rfl,⟨rfl,rfl,rfl⟩,rfl,rfl,List.nodup_nil,WFT.fresh _ _ _⟩
 exact⟨.ref _,_,I.laid (t':=s.toks) (o:=sP X.prog X.w s.heap.objs.size []) (λb u e=>ak _ e) (ai _) hS.obj,rfl,q _ I.fresh⟩
end
structure Met (ps:List (List Key×Addr))(i:Nat)(xs:List (List Key×Addr)):Prop where
 sub:∀ x∈xs,x∈ps
 key:∀ k,k∈keysOf xs↔k∈keysOf (ps.take i)
 nd:(keysOf xs).Nodup
theorem Met.zero (ps:List (List Key×Addr)):Met ps 0 []:=⟨λx h=>(nomatch h),λk=>by simp[keysOf],List.nodup_nil⟩
theorem zP {ps:List (List Key×Addr)}{i:Nat}{k:List Key}(h:ps[i]? = some (k,b))(k':List Key):k'∈keysOf (ps.take (i+1))↔k'∈keysOf (ps.take i)\/k'=k:=by
 unfold keysOf
 rw[bR,h,aX,aJ]
 simp
theorem Met.new {ps:List (List Key×Addr)}{i:Nat}{xs xs':List (List Key×Addr)}{k:List Key}(M:Met ps i xs)(h:ps[i]? = some (k,b))(hk:k∉keysOf xs)(hp:xs'.Perm (xs ++ [(k,b)])):Met ps (i+1) xs':=by
 have xb:(keysOf xs').Perm (keysOf xs ++ [k]):=by
  have:=hp.map λx:List Key×Addr=>x.1
  rwa [aX]at this
 refine⟨λx hx=>?_,λk'=>?_,?_⟩
 ·rcases aJ.mp (hp.mem_iff.mp hx)with z |z
  ·exact M.sub x z
  ·rw[bp]at z;subst z;exact aD h
 ·rw[zP h,<-M.key,xb.mem_iff,aJ,bp]
 ·refine xb.nodup_iff.mpr (cS.mpr ⟨M.nd,by simp,λx hx y hy=>?_⟩)
  rw[bp]at hy
  subst hy
  exact λz=>hk (z ▸ hx)
theorem uk {α:Type} [DecidableEq α]:∀ {l m:List α},l.Nodup->(∀ x∈l,x∈m)->l.length<=m.length
 |[],m,_,_=>aP _
 |x::l,m,hn,hs=>by
  rw[cA]at hn
  have hx:=hs x az
  have:=@uk α _ l (m.erase x) hn.2 λy hy=>by
   refine(List.mem_erase_of_ne ?_).mpr (hs y (ar _ hy))
   rintro rfl
   exact hn.1 hy
  have h2:=List.length_erase_of_mem hx
  have h3:0<m.length:=List.length_pos_of_mem hx
  rw[aQ]
  omega
section
variable {X:Cx}{o e:Expr}{es:List Expr}{to:TE}{t:TA}{name:Str}{apos mQ:Pos}{id:String}{r:V->List V->Hp->VK->Prop}
noncomputable def J7 (P:Program)(w:World)(r:V->List V->Hp->VK->Prop)(to:TE)(t:TA):TE:=λσ H Q=>to σ H λx H1=>(∃ p xs,x = .ref p/\H1 p=some (sP P w p xs))/\t σ H1 λxs H2=>r x xs H2 Q
theorem Hc (slot:Slot "set" name id)(hty:typeOf (.builtin id)=pure (.type "method_descriptor"))(hm:MtR X id r)(ho:PE X o to)(ha:PA X (e::es) t)
  (EG:attributeBase o name X.env (eval o X.env)=eval o X.env:=by rfl)
  (HJ:((backTo mQ (starEach (e::es) X.env)).all (λx=> !x.1)&&(backToKw mQ (keywordEach [] X.env)).all (λx=>x.1.isSome)
   && decide ((e::es).length+([]:List Keyword).length+(if([]:List Keyword).isEmpty then 0 else 1)<30))=true:=by rfl)
  (ED:(apos.endLine==mQ.line)=true:=by rfl) (hs:starEach (e::es) X.env=(false,eval e X.env)::starEach es X.env:=by rfl) (AY:(backTo mQ (starEach es X.env)).any (·.1)=false:=by rfl):
  PE X (.Call (.Attribute o name apos) (e::es) [] mQ) (J7 X.prog X.w r to t):=by
 intro pins s σ H Q I h
 refine wpAny_Call_method_late EG HJ ED rfl (thn (ho pins s σ H _ I h) λv s1 ⟨x,H1,I1,r1,⟨p,xs,ex,hp⟩,q1⟩=>?_)
 subst ex
 cases r1
 have hS:=Inv.G1 I1 hp
 refine⟨"set",id,PySem.F.plainAttrs_set,slot,hty,hS.typeIs,hS.noDict,?_⟩
 have hA:=ha mQ pins s1 σ H1 _ I1 q1
 rw[hs]at hA ⊢
 refine Calls.callWith_builtin (by show(false||(backTo mQ (starEach es X.env)).any (·.1))=false;rw[AY]<;>rfl) (Calls.evalArgs_plain ?_)
 exact thn hA λus s2 ⟨vs,H2,I2,r2,q2⟩=>hm pins s2 σ H2 (.ref p) vs (.ref p) us Q I2 rfl r2 q2
end
noncomputable def kP (p:Int×Int):List Key:=[.inl p.1,.inl p.2]
theorem Hy {p q:Int×Int}(h:kP p=kP q):p=q:=by
 obtain⟨a,b⟩:=p
 obtain⟨c,d⟩:=q
 simp only[kP,List.cons.injEq,Sum.inl.injEq,and_true]at h
 rw[h.1,h.2]
theorem zh {K:PySem.W.Frag}{H:Hp} :∀ {js:List (Int×Int)}{vs:List V},Das K H (js.map dP) vs->∃ ps:List (List Key×Addr),vs=ps.map (λp=>V.ref p.2)/\keysOf ps=js.map kP/\vK K H ps
 |[],vs,h=>⟨[],by rw[List.map_nil]at h;rw[gQ.mp h];rfl,rfl,λx hx=>(nomatch hx)⟩
 |j::js,vs,h=>by
  rw[bt]at h
  obtain⟨v,r,rfl,h1,h2⟩:=fX.mp h
  obtain⟨ps,e1,e2,e3⟩:=zh h2
  unfold dP at h1
  obtain⟨a,us,rfl,ht,q⟩:=gC.mp h1
  obtain⟨v1,r',rfl,q1,q⟩:=fX.mp q
  obtain⟨v2,r',rfl,q2,q⟩:=fX.mp q
  cases gQ.mp q
  cases gD.mp q1
  cases gD.mp q2
  refine⟨(kP j,a)::ps,by rw[e1];rfl,by unfold keysOf at e2 ⊢;rw[bt,e2];rfl,λx hx=>?_⟩
  rcases aI.mp hx with rfl |hx
  ·exact ht
  ·exact e3 x hx
theorem Hn {js:List (Int×Int)}{p:Int×Int} :kP p∈js.map kP↔p∈js:=by
 rw[aH]
 exact⟨λ⟨q,h,e⟩=>Hy e ▸ h,λh=>⟨p,h,rfl⟩⟩
open HT
end TL
namespace TL
open PySem PySem.Spec PyProof.Rows L2
noncomputable def chS (c:Nat):Str:=⟨#[c]⟩
theorem hV (sep a b:Str)(r:List Str):Str.join sep (a::b::r)=a++sep++Str.join sep (b::r):=rfl
theorem join_one (sep a:Str):Str.join sep [a]=a:=rfl
theorem iA (a b:Str):(a++b).cps.toList=a.cps.toList++b.cps.toList:=by rw[Str.cps_append,Array.toList_append]
theorem nW {a b:Str}(h:a.cps.toList=b.cps.toList):a=b:=by rw[<-ye a,h,ye]
theorem vA {c:Nat} :∀ {a b x y:List Nat},c∉a->c∉b->a++c::x=b++c::y->a=b/\x=y
 |[],[],x,y,_,_,h=>⟨rfl,by injection h⟩
 |[],q::b,x,y,_,hb,h=>by
  injection h with h1 _
  exact absurd (by rw[h1];exact az) hb
 |p::a,[],x,y,ha,_,h=>by
  injection h with h1 _
  exact absurd (by rw[<-h1];exact az) ha
 |p::a,q::b,x,y,ha,hb,h=>by
  injection h with h1 h2
  obtain⟨e1,e2⟩:=vA (λz=>ha (ar _ z)) (λz=>hb (ar _ z)) h2
  exact⟨by rw[h1,e1],e2⟩
theorem w4 {c:Nat} :∀ {ws vs:List Str},ws≠ []->vs≠ []->(∀ w∈ws,c∉w.cps.toList)->(∀ v∈vs,c∉v.cps.toList)->Str.join (chS c) ws=Str.join (chS c) vs->ws=vs
 |[],_,h,_,_,_,_=>absurd rfl h
 |_,[],_,h,_,_,_=>absurd rfl h
 |[w],[v],_,_,_,_,h=>by rw[join_one,join_one]at h;rw[h]
 |[w],v::v'::vs,_,_,hw,_,h=>by
  rw[join_one,hV]at h
  refine absurd ?_ (hw w az)
  rw[h,iA,iA]
  exact bL _ (aL _ (by show c∈ [c];simp))
 |w::w'::ws,[v],_,_,_,hv,h=>by
  rw[join_one,hV]at h
  refine absurd ?_ (hv v az)
  rw[<-h,iA,iA]
  exact bL _ (aL _ (by show c∈ [c];simp))
 |w::w'::ws,v::v'::vs,_,_,hw,hv,h=>by
  rw[hV,hV]at h
  have h2:(w++chS c++Str.join (chS c) (w'::ws)).cps.toList=(v++chS c++Str.join (chS c) (v'::vs)).cps.toList:=by rw[h]
  rw[iA,iA,iA,iA,aW,aW]at h2
  obtain⟨e1,e2⟩:=vA (hw w az) (hv v az) (show w.cps.toList++c::_=v.cps.toList++c::_ from h2)
  have:=w4 (c:=c) (ws:=w'::ws) (vs:=v'::vs) (by simp) (by simp) (λx hx=>hw x (ar _ hx)) (λx hx=>hv x (ar _ hx)) (nW e2)
  rw[nW e1,this]
theorem qN (x:Str)(c:Nat):Txt.split x (chS c)≠ []:=by
 unfold Txt.split
 split
 ·simp
 ·split
  ·simp
  ·rw[PySem.StrLaws.partsBetween_eq]
   obtain⟨p,r,e⟩:=PySem.StrLaws.partsFrom_ne x (chS c).length 0 (Builtin.Str.occurrences x (chS c) 0 x.length (x.length+1))
   rw[e];simp
theorem nZ {c:Nat}{ws:List Str}(h0:ws≠ [])(h:∀ w∈ws,c∉w.cps.toList):Txt.split (Str.join (chS c) ws) (chS c)=ws:=
 w4 (qN _ c) h0 (PySem.StrLaws.split_free _ c) h (cE _ (chS c))
theorem join_snoc (sep w:Str):∀ {ws:List Str},ws≠ []->Str.join sep (ws ++ [w])=Str.join sep ws++sep++w
 |[],h=>absurd rfl h
 |[a],_=>rfl
 |a::b::r,_=>by
  show Str.join sep (a::b::(r ++ [w]))=_
  rw[hV,hV]
  have:=join_snoc sep w (ws:=b::r) (by simp)
  rw[show b::(r ++ [w])=(b::r) ++ [w] from rfl,this]
  simp only[Str.append_assoc]
noncomputable def kM (c:Nat):Bool:=decide (48<=c/\c<=57)
noncomputable def mW (l:List Nat):Option Int:=
 if l = []\/40<l.length then none else if l.all kM=false then none else if l.head?=some 48/\l≠ [48]then none else some ((NumText.digitsVal l:Nat):Int)
noncomputable def lC (l:List Nat):Option Int:=(mW l.dropLast).bind λn=>if l.getLast?=some 60 then some (2*n)else if l.getLast?=some 62 then some (2*n+1)else none
noncomputable def txN (n:Int):Str:=Str.ofString (toString n)
noncomputable def txE (e:Int):Str:=txN (e/2)++chS (if e%2=0 then 60 else 62)
theorem Fe {n:Int}(h:0<=n):(txN n).cps.toList=(Nat.toDigits 10 n.toNat).map Char.toNat:=by
 have:=PySem.W.KIN.signs_num n.toNat
 rw[show((n.toNat:Nat):Int)=n by omega]at this
 exact this
theorem CS:∀ m,m<41->mW ((Nat.toDigits 10 m).map Char.toNat)=some (m:Int)/\((Nat.toDigits 10 m).map Char.toNat).all kM=true/\((Nat.toDigits 10 m).map Char.toNat).length<=2:=by decide +kernel
theorem rK {n:Int}(h0:0<=n)(h1:n<41):mW (txN n).cps.toList=some n/\(txN n).cps.toList.all kM=true/\(txN n).length<=2:=by
 obtain⟨a,b,c⟩:=CS n.toNat (by omega)
 have e:=Fe h0
 refine⟨by rw[e,a];congr 1;omega,by rw[e];exact b,?_⟩
 have:(txN n).length=(txN n).cps.toList.length:=by simp[Str.length]
 rw[this,e];exact c
theorem iF {e:Int}(h0:0<=e)(h1:e<82):lC (txE e).cps.toList=some e/\(∀ c∈(txE e).cps.toList,48<=c/\c<=62)/\(txE e).length<=3:=by
 obtain⟨a,b,c⟩:=rK (n:=e/2) (by omega) (by omega)
 have ec:(txE e).cps.toList=(txN (e/2)).cps.toList ++ [if e%2=0 then 60 else 62]:=by unfold txE;rw[iA];rfl
 refine⟨?_,λd hd=>?_,?_⟩
 ·unfold lC
  rw[ec,List.dropLast_concat,a]
  show(if _ then _ else _)=_
  rw[List.getLast?_concat]
  by_cases z:e%2=0
  ·rw[aA z,aA rfl];congr 1;omega
  ·rw[au z,au (by decide),aA rfl];congr 1;omega
 ·rw[ec]at hd
  rcases aJ.mp hd with z |z
  ·have:=dU.mp b d z
   unfold kM at this
   have:=eN this
   omega
  ·have z:d=if e%2=0 then 60 else 62:=by simpa using z
   rw[z];split<;>omega
 ·unfold txE
  rw[aB]
  show _+1<=3
  omega
theorem nM {H H':Hp}(s:fk H H'){q:Addr}(h:H' q=none):H q=none:=by
 cases q0:H q with
 |none=>rfl
 |some o=>rw[s _ _ q0]at h;cases h
theorem uI {sep:Str} :∀ {ws:List Str}{x:Str},x∈ws->x.length<=(Str.join sep ws).length
 |[],_,h=>nomatch h
 |[a],x,h=>by
  have h:x=a:=by simpa using h
  rw[h];exact ai _
 |a::b::r,x,h=>by
  rw[hV,aB,aB]
  rcases aI.mp h with rfl |h
  ·omega
  ·have:=uI (sep:=sep) h
   omega
noncomputable def tot (ws:List Str):Nat:=(ws.map (·.length)).sum+ws.length
theorem yR (x:Str)(b:List Str):tot (x::b)=x.length+1+tot b:=by unfold tot;simp;omega
theorem yg (a:List Str):a.length<=tot a:=by unfold tot;omega
theorem yQ (c:Nat):∀ {ws:List Str},ws≠ []->tot ws=(Str.join (chS c) ws).length+1
 |[],h=>absurd rfl h
 |[a],_=>by rw[yR,TL.join_one];rfl
 |a::b::r,_=>by
  rw[yR,yQ c (ws:=b::r) (by simp),hV,aB,aB]
  have e:(chS c).length=1:=rfl
  omega
theorem rO (z:Str)(c:Nat):tot (Txt.split z (chS c))=z.length+1:=by
 rw[yQ c (qN z c),cE]
section
variable {X:Cx}{K:PySem.W.Frag}{T:String}{name:Str}{id:String}{r:V->List V->Hp->VK->Prop}{o e:Expr}{es:List Expr}{to:TE}{t:TA}{apos mQ:Pos}
theorem AE (e:X.K=K):OpR X (compareOp .In) (rIn K false):=by subst e;exact Cs
end
section
variable {K:PySem.W.Frag}{l:Addr}{g:TG}{tt:TT}{te:TE}{cap:List (Option Nat)}{σ:St}{Q:VK}{H1:Hp}{J:It}
theorem Es {α:Type}(n:Nat)(rs:List (Option α))(d':α->PyData)(hn:H1 l=none)(hlen:n=rs.length)(hz:n<sizeLine)(go:∀ i H,fk H1 H->i<n->J.go i H)(st:∀ H,fk H1 H->J.stop n H)
  (hs:∀ i x r H H',fk H1 H->(∃ us,H l=some (.lst us))->J.yld i H x H'->rs[i]? = some r->∀ (P1:VK) (P0:Hp->Prop),(∀ d,r=some d->∀ v H2,fk H H2->Da K (hid l H2) (d' d) v->P1 v H2)->
   g x (jh cap σ) H' λσ2 H2=>tt σ2 H2 λb H3=>if b=true then te σ2 H3 P1 else P0 H3)
  (hq:∀ (ds:List α) vs H',rs=ds.map some->fk H1 H'->H' l=some (.lst vs)->Das K (hid l H') (ds.map d') vs->Q (.ref l) H'):LcW J g tt te cap σ Q l H1:=by
 refine AR n (λi acc H=>(∃ ds:List α,rs.take i=ds.map some/\Das K (hid l H) (ds.map d') acc)/\fk H1 H/\H l=some (.lst acc)) ⟨⟨[],rfl,gQ.mpr rfl⟩,eY hn,eZ⟩ (λi acc H hi ⟨_,s,_⟩=>go i H s hi) (λacc H ⟨_,s,_⟩=>st H s) ?_ ?_
 ·rintro i x acc H H' hi ⟨⟨ds,e0,e1⟩,s,hl⟩ y
  have hd:rs[i]? = some (rs[i]'(by omega)):=by simp
  generalize rs[i]'(by omega)=r at hd
  refine hs i x r H H' s ⟨_,hl⟩ y hd _ _ (λd er v H2 s2 dv=>?_)
  have la:=Dgs.length e1
  have lb:=cg List.length e0
  rw[aa]at la lb
  rw[aN]at lb
  refine⟨s2 _ _ hl,by omega,⟨ds ++ [d],?_,?_⟩,fk.upd (s.trans s2) hn,eZ⟩
  ·rw[bR,hd,e0,aX,er];rfl
  ·rw[yn,aX]
   exact Dgs.append (Das.same (zS s2) e1) (Dgs.one dv)
 ·rintro acc H ⟨⟨ds,e0,e1⟩,s,hl⟩
  rw[aO (by omega)]at e0
  exact hq ds acc H e0 s hl e1
end
open PySem.W
noncomputable def ev {α:Type} :List α->List α
 |[]=>[]
 |[x]=>[x]
 |x::_::r=>x::ev r
section
variable {X:Cx}
theorem FA:OpR X (binaryOp .Mult) (λx y H Q=>∃ (z:Str) (n:Int),x = .str z/\y = .int n/\z.length<=1000/\(n=0\/n=1)/\Q (.str (if n=1 then z else Str.empty)) H):=by
 intro pins s σ H x y v u Q I rx ry h
 obtain⟨z,n,rfl,rfl,hz,hn,q⟩:=h
 obtain⟨t,rfl⟩:=rx
 obtain⟨t',rfl⟩:=ry
 refine P.mul_str (by rw[bF (by omega),bF (by omega)];rfl) (λh1 _ h2=>?_) (λh1 _=>?_) ?_
 ·rcases hn with rfl |rfl
  ·omega
  ·rw[Int.ediv_one]at h2;omega
 ·unfold Builtin.Str.tooLong
  rw[aM]
  rcases hn with rfl |rfl<;>simp<;>omega
 ·rcases hn with rfl |rfl
  ·rw[aA (by decide)]
   refine⟨by decide,⟨.str Str.empty,H,I.tok _,⟨_,rfl⟩,?_⟩⟩
   rw[au (by decide)]at q
   exact q
  ·rw[au (by decide),aA (by rfl)]
   refine⟨.str z,H,I,⟨_,rfl⟩,?_⟩
   rw[aA rfl]at q
   exact q
end
end TL
namespace TL
open PySem PySem.Spec PyProof.Rows L2 TS
section
variable {X:Cx}{pins:List (Addr×Obj)}{σ:St}{H1:Hp}{s2:Shared}{scope:Scope}{N:List Str}{own:Nat}{cap:List (Option Nat)}{cl:List (Str×Addr)}{fp:List Addr}
 {tg iter elt vlt:Expr}{ifs:List Expr}{pos:Pos}{g:TG}{tt:TT}{te tv:TE}{wi:TI}
end
section
variable {X:Cx}{pins:List (Addr×Obj)}{σ:St}{H1:Hp}{s2:Shared}{scope:Scope}{N:List Str}{own:Nat}{cap:List (Option Nat)}{cl:List (Str×Addr)}{fp:List Addr}
 {tg iter elt vlt:Expr}{ifs:List Expr}{pos:Pos}{g:TG}{tt:TT}{te tv:TE}{wi:TI}
end
end TL
namespace TL
open PySem PySem.Spec PyProof.Rows L2
theorem gv {n:Nat}(h:n<=1000):n<sizeLine:=dh h (by decide)
variable {K:PySem.W.Frag}
theorem rz {H:Hp}{js:List (Int×Int)}{vs:List V}(h:Das K H (js.map dP) vs):vs.length=js.length:=by rw[Dgs.length h,aa]
variable {l:Int×List (Int×Int)}
theorem xn (h:ij l)(e:Int):(below l.2 e).length+(above l.2 e).length<=160:=h.inc e
theorem vh (h:ij l)(e:Int):(jn l.2 e).length<=160:=by
 unfold jn
 rw[nY,aU]
 exact h.inc e
theorem vB (h:ij l)(ns:List Int)(e:Int):(fr l ns e).length<=160:=bq (bS _ _) (vh h e)
theorem qm {α β:Type}(f:α->β)(l:List α)(i:Nat)(x:α)(h:l[i]? = some x):(l.take (i+1)).map f=(l.take i).map f ++ [f x]:=by
 rw[bR,h,aX];rfl
theorem mI:∀ (ds:List PyData),(∀ d∈ds,d.canLay0=true)->PyData.canLayAll0 ds=true
 |[],_=>by simp[PyData.canLayAll0]
 |d::ds,h=>by
  simp only[PyData.canLayAll0,cM]
  exact⟨h d az,mI ds λx hx=>h x (ar _ hx)⟩
theorem rP (l:Int×List (Int×Int))(ns:List Int):∀ m∈mvs l ns,PyData.strOk m.1.1=true:=λm hm=>by
 rcases aJ.mp hm with z |z
 ·obtain⟨e,_,rfl⟩:=aH.mp z
  show PyData.strOk (Str.ofString "on")=true
  decide +kernel
 ·obtain⟨e,_,rfl⟩:=aH.mp z
  show PyData.strOk (Str.ofString "back")=true
  decide +kernel
noncomputable def dM (k:Str×Int):PyData:=.tuple [.str k.1,.int k.2]
theorem zw {k:Str×Int}(h:PyData.strOk k.1=true):OkD (dM k):=by
 refine⟨?_,?_⟩
 ·simp only[dM,PyData.canLay0,PyData.canLayAll0,h,Bool.and_true]
 ·simp only[dM,PyData.depth,PyData.depthAll];decide
theorem GF (a b:Str×Int):PyData.eqv (dM a) (dM b)=decide (a=b):=by
 obtain⟨a1,a2⟩:=a
 obtain⟨b1,b2⟩:=b
 simp only[dM,PyData.eqv,PyData.eqvAll,Bool.and_true]
 by_cases h:a1=b1<;>by_cases h':a2=b2<;>simp[h,h']
theorem Ef {H H1:Hp}{p:Addr}{ms:List Mv}{vs:List V}{i:Nat}{y:V}(D:Dgs (Lf H H1 p) (SqT K H1) (ms.map dMv) vs)(hy:vs[i]? = some y):
  ∃ m ad p1 b,ms[i]? = some m/\y = .ref ad/\SqT K H1 ad [.ref p1,.ref b]/\Da K H1 (dM m.1) (.ref p1)/\H1 b=some (.lst (m.2.map V.int))/\H b=none/\b≠p:=by
 obtain⟨d,e1,hd⟩:=Dgs.get D hy
 rw[aq]at e1
 cases q:ms[i]? with
 |none=>rw[q]at e1;cases e1
 |some m=>
  rw[q]at e1
  cases e1
  unfold dMv at hd
  obtain⟨ad,us,rfl,ht,q⟩:=gC.mp hd
  obtain⟨v1,r,rfl,h1,q⟩:=fX.mp q
  obtain⟨v2,r,rfl,h2,q⟩:=fX.mp q
  cases gQ.mp q
  have h1':Da K H1 (dM m.1) v1:=Dg.mono (λa us h=>SqL.of h.1) (λ_ _ h=>h) h1
  obtain⟨p1,_,rfl,_,_⟩:=gC.mp h1
  unfold dI at h2
  obtain⟨b,zs,rfl,⟨l1,l2,l3⟩,hz⟩:=jg.mp h2
  rw[mH.mp hz]at l1
  exact⟨m,ad,p1,b,rfl,rfl,ht,h1',l1,l2,l3⟩
noncomputable def fnd (ms:List Mv)(k:Str×Int):Option (List Int):=(ms.find? λm=>decide (m.1=k)).map (·.2)
theorem FX {ms:List Mv}{k:Str×Int}{i:Nat}{m:Mv}(hi:ms[i]? = some m)(e:m.1=k)(no:∀ j,j<i->∀ n,ms[j]? = some n->n.1≠k):fnd ms k=some m.2:=by
 unfold fnd
 have:ms.find? (λm=>decide (m.1=k))=some m:=by
  rw[List.find?_eq_some_iff_getElem]
  obtain⟨hl,hg⟩:=af.mp hi
  refine⟨by simpa using e,i,hl,hg,λj hj=>?_⟩
  have:=no j hj _ (af.mpr ⟨by omega,rfl⟩)
  simpa using this
 rw[this];rfl
theorem EK {ms:List Mv}{k:Str×Int}(no:∀ j,j<ms.length->∀ n,ms[j]? = some n->n.1≠k):fnd ms k=none:=by
 unfold fnd
 rw[Option.map_eq_none_iff,List.find?_eq_none]
 intro m hm
 obtain⟨j,hj,e⟩:=bK.mp hm
 have:=no j hj m (af.mpr ⟨hj,e⟩)
 simpa using this
noncomputable def dLI (xss:List (List Int)):PyData:=.list (xss.map dI)
theorem Eb (xss:List (List Int)):OkD (dLI xss):=by
 refine⟨?_,?_⟩
 ·simp only[dLI,PyData.canLay0]
  refine mI _ λd hd=>?_
  obtain⟨m,hm,rfl⟩:=aH.mp hd
  exact(uS m).1
 ·simp only[dLI,PyData.depth]
  have:=iU (f:=dI) (k:=1) (λm=>by
   simp only[dI,PyData.depth]
   have:=iU (f:=PyData.int) (k:=0) (λ_=>by simp[PyData.depth]) m
   omega) xss
  omega
noncomputable def dR (run:List (Str×Int)):PyData:=.list (run.map dM)
theorem ES {H:Hp}{run:List (Str×Int)}{vs:List V}{i:Nat}{y:V}(h:Das K H (run.map dM) vs)(e:vs[i]? = some y):∃ k,run[i]? = some k/\Da K H (dM k) y:=by
 obtain⟨d,e1,hd⟩:=Dgs.get h e
 rw[aq]at e1
 cases q:run[i]? with
 |none=>rw[q]at e1;cases e1
 |some k=>rw[q]at e1;cases e1;exact⟨k,rfl,hd⟩
theorem Gs {run:List (Str×Int)}(h:∀ k∈run,PyData.strOk k.1=true):OkD (dR run):=by
 refine⟨?_,?_⟩
 ·simp only[dR,PyData.canLay0]
  refine mI _ λd hd=>?_
  obtain⟨m,hm,rfl⟩:=aH.mp hd
  exact(zw (h m hm)).1
 ·simp only[dR,PyData.depth]
  have:=iU (f:=dM) (k:=1) (λm=>by simp[dM,PyData.depth,PyData.depthAll]) run
  omega
noncomputable abbrev Ma:=Mv×Addr×Addr
theorem ua {l:Ln}(ok:ij l)(ns:List Int):(mvs l ns).length<=320:=by
 unfold mvs
 rw[aU,aa,aa]
 have h1:(TL.fr l ns (oth (ns.getLastD 0))).length<=160:=vB ok ns (oth (ns.getLastD 0))
 have h2:(TL.fr l ns (ns.headD 0)).length<=160:=vB ok ns (ns.headD 0)
 omega
theorem o5.snoc {ns:List Int}{x:Int}(ok:ij l)(T:o5 l ns)(hne:ns≠ [])(hx:x∈fr l ns (oth (ns.getLastD 0))):o5 l (ns ++ [x]):=by
 obtain⟨h1,h2⟩:=bV.mp hx
 have h2:¬x/2∈ns.map (· / 2):=by simpa using h2
 refine⟨λe he=>?_,?_,λi a b ha hb=>?_⟩
 ·rcases aJ.mp he with z |z
  ·exact T.ends e z
  ·have z:e=x:=by simpa using z
   rw[z];exact vi ok h1
 ·rw[aX,cS]
  refine⟨T.nd,by simp,λa ha b hb=>?_⟩
  have hb:b=x/2:=by simpa using hb
  intro z
  exact h2 (by rw[<-hb,<-z];exact ha)
 ·by_cases hi:i+1<ns.length
  ·rw[ba hi]at hb
   rw[ba (by omega)]at ha
   exact T.ch i a b ha hb
  ·have hlt:i+1<(ns ++ [x]).length:=(af.mp hb).1
   rw[aU,dF]at hlt
   have e1:i+1=ns.length:=by omega
   rw[e1,bf (ai _),cP]at hb
   cases hb
   rw[ba (by omega)]at ha
   have e2:ns.getLastD 0=a:=by
    rw[eL,List.getLast?_eq_getElem?]
    have:ns.length-1=i:=by omega
    rw[this,ha];rfl
   rw[e2]at h1
   exact h1
theorem F1 {H:Hp}{k:Str×Int}{v:V}(h:Da K H (dM k) v):∃ a,v = .ref a/\SqT K H a [.str k.1,.int k.2]:=by
 unfold dM at h
 obtain⟨a,vs,rfl,ht,q⟩:=gC.mp h
 obtain⟨v1,r,rfl,h1,q⟩:=fX.mp q
 obtain⟨v2,r,rfl,h2,q⟩:=fX.mp q
 cases gQ.mp q
 cases sD.mp h1
 cases gD.mp h2
 exact⟨a,rfl,ht⟩
noncomputable abbrev Sh (cs:List Ma):List Mv:=cs.map (·.1)
theorem JD (run:List (Str×Int)):PyData.eqv (dR run) (.list [])=run.isEmpty:=by
 rw[dR,kE];cases run<;>rfl
theorem EA {js:List (Int×Int)}(h:∀ p∈js,p.1≠p.2)(e:Int):srt ((js.filter λp=>decide (p.1=e\/p.2=e)).map λp=>p.1+p.2-e)=jn js e:=by
 refine Cg ?_
 induction js with
 |nil=>exact .refl _
 |cons p r ih=>
  have ih:=ih λq hq=>h q (ar _ hq)
  have hp:=h p az
  unfold below above at ih ⊢
  by_cases h1:p.1=e
  ·have h2:¬p.2=e:=λz=>hp (h1.trans z.symm)
   rw[dj (by simp[h1]),cL (by simp[h2]),dj (by simp[h1]),bt,bt]
   rw[show p.1+p.2-e=p.2 by omega]
   exact(List.Perm.cons _ ih).trans cW.symm
  ·by_cases h2:p.2=e
   ·rw[dj (by simp[h2]),dj (by simp[h2]),cL (by simp[h1]),bt,bt,List.cons_append]
    rw[show p.1+p.2-e=p.1 by omega]
    exact List.Perm.cons _ ih
   ·rw[cL (by simp[h1,h2]),cL (by simp[h2]),cL (by simp[h1])]
    exact ih
theorem fW.ne {l:Ln}(h:fW l):∀ p∈l.2,p.1≠p.2:=λp hp z=>by
 obtain⟨_,_,_,d⟩:=h.2.2.2.1 p hp
 rw[z]at d
 exact d rfl
theorem sh {l:Ln}(ok:ij l){ns:List Int}{m:Mv}(hm:m∈mvs l ns):(m.1.1=Str.ofString "on" \/m.1.1=Str.ofString "back")/\0<=m.1.2/\m.1.2<2*l.1:=by
 rcases aJ.mp hm with z |z
 ·obtain⟨e,he,h⟩:=aH.mp z
  rw[<-h]
  exact⟨.inl rfl,vi ok (yp he).1⟩
 ·obtain⟨e,he,h⟩:=aH.mp z
  rw[<-h]
  exact⟨.inr rfl,vi ok (yp he).1⟩
theorem kQ {x:Str}(h:x=Str.ofString "on" \/x=Str.ofString "back"):PyData.strOk x=true:=by
 rcases h with rfl |rfl<;>decide +kernel
noncomputable abbrev SK:=List Key×Key
noncomputable abbrev KvN:=List (SK×Addr×V)
noncomputable abbrev PN:KvN->List (SK×Addr×Value)->Prop:=Paired λp q=>p.1=q.1/\p.2.1=q.2.1/\RelV p.2.2 q.2.2
open TS
section
variable {X:Cx}{pins:List (Addr×Obj)}{σ:St}{H1:Hp}{s2:Shared}{scope:Scope}{N:List Str}{own:Nat}{cap:List (Option Nat)}{cl:List (Str×Addr)}{fp:List Addr}
 {tg iter elt vlt:Expr}{ifs:List Expr}{pos:Pos}{g:TG}{tt:TT}{te tv:TE}{wi:TI}
end
end TL
namespace L2
open PySem PySem.Spec PySem.Calls PyProof.Rows PySem.W
end L2
namespace TL
open PySem PySem.Spec PyProof.Rows L2 TS
noncomputable abbrev Rows:=List (List Int×Int)
theorem rN {l:Ln}{ns:List Int}(ok:ij l)(T:o5 l ns):o5 l (ns.reverse.map oth):=by
 refine⟨λe he=>?_,?_,λi x y hx hy=>?_⟩
 ·obtain⟨z,hz,rfl⟩:=aH.mp he
  have:=T.ends z (cX.mp hz)
  unfold oth;omega
 ·rw[br,show((λx:Int=>x/2) ∘ oth)=(λx:Int=>x/2) from funext λe=>by show oth e/2=e/2;unfold oth;omega,List.map_reverse]
  exact(List.reverse_perm _).nodup_iff.mpr T.nd
 ·rw[aq]at hx hy
  have hi:i+1<ns.length:=by
   by_cases z:i+1<ns.length
   ·exact z
   ·rw[List.getElem?_eq_none (by rw[b9];omega)]at hy;cases hy
  rw[List.getElem?_reverse (by omega)]at hx
  rw[List.getElem?_reverse (by omega)]at hy
  cases q1:ns[ns.length-1-i]? with
  |none=>rw[q1]at hx;cases hx
  |some a=>
   cases q2:ns[ns.length-1-(i+1)]? with
   |none=>rw[q2]at hy;cases hy
   |some b=>
    rw[q1]at hx;rw[q2]at hy
    cases hx;cases hy
    have:=T.ch (ns.length-1-(i+1)) b a q2 (by rw[show ns.length-1-(i+1)+1=ns.length-1-i by omega];exact q1)
    rw[Bv]
    exact BE ok this
noncomputable abbrev Sm (d p:Addr)(H:Hp):Hp:=hid p (hid d H)
variable {H:Hp}
theorem Iw {σ:L2.St}{te:TE}{P1:VK}{P0:Hp->Prop}(h:te σ H P1):Ce σ H (λb H3=>if b=true then te σ H3 P1 else P0 H3):=tW (A:=te σ H P1) (B:=P0 H) h
open Classical in
noncomputable def gm (p:Addr->Prop) (H:Hp):Hp:=λb=>if p b then none else H b
variable {p:Addr->Prop}
theorem gL {b:Addr}(h:¬p b):gm p H b=H b:=by unfold gm;rw[au h]
theorem qb {b:Addr}(h:p b):gm p H b=none:=by unfold gm;rw[aA h]
theorem fN:fk (gm p H) H:=λb u h=>by
 by_cases z:p b
 ·rw[qb z]at h;cases h
 ·rw[gL z]at h;exact h
theorem hG {H':Hp}(s:fk H H'):fk (gm p H) (gm p H'):=λb u h=>by
 by_cases z:p b
 ·rw[qb z]at h;cases h
 ·rw[gL z]at h ⊢;exact s _ _ h
theorem jw {a:Addr}{o:HO}(h:p a):gm p (upd H a o)=gm p H:=by
 funext b
 by_cases z:p b
 ·rw[qb z,qb z]
 ·rw[gL z,gL z,fE λe=>z (by rw[e];exact h)]
end TL
namespace TL
open PySem PySem.Spec PyProof.Rows L2
open TS
end TL
namespace TL
open PySem PySem.Spec PyProof.Rows L2
noncomputable abbrev Sta:=List Int×Str
noncomputable abbrev Bk:=Option (Sta×Option (Str×Int))
noncomputable abbrev EnS:=Sta×Bk
section
variable {X:Cx}
theorem yd:MtR X "str.partition" (λx vs H Q=>∃ z y,x = .str z/\vs = [.str y]/\1<=y.length/\z.length<=100000/\∀ p,H p=none->Q (.ref p) (upd H p (.tup [.str (Txt.partition z y).1,.str (Txt.partition z y).2.1,.str (Txt.partition z y).2.2]))):=by
 intro pins s σ H x vs v us Q I rx rv h
 obtain⟨z,y,rfl,rfl,hy,hz,q⟩:=h
 obtain⟨t,rfl⟩:=rx
 obtain⟨u,rfl,ru⟩:=rv.one
 obtain⟨tu,rfl⟩:=ru
 have hy0:(y.length==0)=false:=by simp;omega
 have hx:z.length<=sizeLine:=by rw[aM];omega
 refine eC PySem.F.slot_str_partition (eT _ _ _) PySem.F.entry_str_partition (PySem.F.args_str_partition_2 _ _) (meets_str_partition z y t tu hy0 hx) ?_
 have q:=q _ I.fresh
 unfold Txt.partition at q
 revert q
 cases Builtin.Str.occurrences z y 0 z.length 1 with
 |nil=>intro q;exact⟨.ref _,_,I.laid (t':=_) (o:=.tup [.str _,.str _,.str _]) (λb ob e=>ak _ e) (ai _) ⟨by show 3<=sizeLine;decide,_,.cons ⟨_,rfl⟩ (.cons ⟨_,rfl⟩ (.cons ⟨_,rfl⟩ .nil)),⟨_,aR _ rfl,rfl,_,rfl⟩⟩,rfl,q⟩
 |cons i r=>intro q;exact⟨.ref _,_,I.laid (t':=_) (o:=.tup [.str _,.str _,.str _]) (λb ob e=>ak _ e) (ai _) ⟨by show 3<=sizeLine;decide,_,.cons ⟨_,rfl⟩ (.cons ⟨_,rfl⟩ (.cons ⟨_,rfl⟩ .nil)),⟨_,aR _ rfl,rfl,_,rfl⟩⟩,rfl,q⟩
end
theorem A6 (z:Str)(c k:Nat):PySem.StrLaws.At z (chS c) z.length k↔z.cps.toList[k]? = some c:=by
 have e1:(chS c).length=1:=rfl
 have e2:(chS c).cps.toList = [c]:=rfl
 unfold PySem.StrLaws.At
 rw[PySem.StrLaws.subAt_eq,e1,e2]
 have hz:z.length=z.cps.toList.length:=by simp[Str.length]
 rw[hz]
 constructor
 ·rintro⟨h1,h2⟩
  have h2:(z.cps.toList.drop k).take 1 = [c]:=eq_of_beq h2
  have h3:(z.cps.toList.drop k)[0]? = some c:=by
   have:((z.cps.toList.drop k).take 1)[0]? = some c:=by rw[h2];rfl
   rwa [cH (by decide)]at this
  simpa using h3
 ·intro h
  obtain⟨hk,e⟩:=af.mp h
  refine⟨hk,?_⟩
  rw[dc hk,e]
  simp
theorem D8 {c:Nat}{w r:Str}(h:c∉w.cps.toList):Txt.partition (w++chS c++r) (chS c)=(w,chS c,r):=by
 have hl:(w++chS c++r).cps.toList=w.cps.toList++c::r.cps.toList:=by rw[iA,iA,aW];rfl
 have hat:PySem.StrLaws.At (w++chS c++r) (chS c) (w++chS c++r).length w.cps.toList.length:=by
  rw[A6,hl,bf (ai _),cP];rfl
 have hs:=PySem.StrLaws.partition_sum (w++chS c++r) (chS c)
 have hb:(Txt.partition (w++chS c++r) (chS c)).2.1=chS c/\c∉(Txt.partition (w++chS c++r) (chS c)).1.cps.toList:=by
  rcases PySem.StrLaws.occ_head (w++chS c++r) (chS c) 1 (ai _)with⟨_,z⟩|⟨i,t,e,ha,hn⟩
  ·exact absurd hat (z _)
  ·unfold Txt.partition
   rw[e]
   refine⟨rfl,λz=>?_⟩
   have z:c∈(Builtin.Str.strSub (w++chS c++r) 0 i).cps.toList:=z
   rw[PySem.StrLaws.strSub_toList]at z
   obtain⟨k,hk⟩:=cQ.mp z
   have hk':k<i:=by
    have:=(af.mp hk).1
    rw[aN]at this
    omega
   refine hn k hk' ((A6 _ _ _).mpr ?_)
   rw[cH (by omega)]at hk
   simpa using hk
 generalize Txt.partition (w++chS c++r) (chS c)=q at hs hb
 obtain⟨a,b,d⟩:=q
 obtain⟨rfl,hb⟩:=hb
 have hs:(a++chS c++d).cps.toList=(w++chS c++r).cps.toList:=by rw[hs]
 rw[hl,iA,iA,aW]at hs
 obtain⟨e1,e2⟩:=vA hb h (show a.cps.toList++c::d.cps.toList=w.cps.toList++c::r.cps.toList from hs)
 have e1:a=w:=nW e1
 rw[e1,nW e2]
theorem Fy {c:Nat}{w:Str}(h:c∉w.cps.toList):Txt.partition w (chS c)=(w,Str.empty,Str.empty):=by
 rcases PySem.StrLaws.occ_head w (chS c) 1 (ai _)with⟨e,_⟩|⟨i,t,e,ha,_⟩
 ·unfold Txt.partition;rw[e]
 ·exact absurd (aD ((A6 _ _ _).mp ha)) h
structure A8 (P:Program)(w:World)(K:PySem.W.Frag)(mg:Str->Option Value)(x:Str)(od:Addr)(kvs:List (Str×Addr)):Prop where
 m:mg x=some (.ref od)
 d:∀ h:Heap,K.In h->h.DictOf (iu P w) od (kvs.map λp=>((.inr p.1:Key),Value.ref p.2))
variable {K:PySem.W.Frag}
theorem kd_in {P:Program}{w:World}{mg:Str->Option Value}{x:Str}{od:Addr}{kvs:List (Str×Addr×Tok)}{ep:Nat}(hm:mg x=some (.ref od))
  (hk:K.lookup od=some {cls:=.type "dict",data:=.dict (kvs.map λp=>⟨PyData.keyHash w.params p.1,.str p.1 p.2.2,.ref p.2.1⟩).toArray ep}) (nd:(kvs.map (·.1)).Nodup):A8 P w K mg x od (kvs.map λp=>(p.1,p.2.1)):=by
 refine⟨hm,λh hK=>⟨_,_,ep,hK od _ hk,⟨rfl,rfl,rfl⟩,rfl,?_,?_,?_⟩⟩
 ·intro e he
  have he:e∈kvs.map λp=>(⟨PyData.keyHash w.params p.1,.str p.1 p.2.2,.ref p.2.1⟩:DictEntry):=by simpa using he
  obtain⟨p,_,rfl⟩:=aH.mp he
  exact⟨.inr p.1,zQ (P:=P) (w:=w) (k:=.inr p.1) ⟨p.2.2,rfl⟩,rfl⟩
 ·have:∀ l:List (Str×Addr×Tok),Pairs (iu P w) (l.map λp=>(⟨PyData.keyHash w.params p.1,.str p.1 p.2.2,.ref p.2.1⟩:DictEntry)) ((l.map λp=>(p.1,p.2.1)).map λp=>((.inr p.1:Key),Value.ref p.2)):=λl=>by
   induction l with
   |nil=>exact .nil
   |cons p l ih=>exact .cons (zQ (P:=P) (w:=w) (k:=.inr p.1) ⟨p.2.2,rfl⟩) rfl ih
  simpa using this kvs
 ·rw[br,br]
  show(kvs.map λp=>(Sum.inr p.1:Key)).Nodup
  have e:(kvs.map λp=>(Sum.inr p.1:Key))=(kvs.map (·.1)).map Sum.inr:=by rw[br];rfl
  rw[e]
  exact ck.mpr (nd.imp λh z=>h (by injection z))
noncomputable def ma (kvs:List (Str×Addr))(k:Str):Option Addr:=(kvs.find? λp=>decide (p.1=k)).map (·.2)
theorem Ey (kvs:List (Str×Addr))(k:Str):valueAt (kvs.map λp=>((.inr p.1:Key),Value.ref p.2)) (.inr k)=(ma kvs k).map Value.ref:=by
 unfold valueAt ma
 induction kvs with
 |nil=>rfl
 |cons p r ih=>
  by_cases h:p.1=k
  ·simp[h]
  ·rw[bt,List.find?_cons_of_neg (by simpa using h),List.find?_cons_of_neg (by simpa using h)]
   exact ih
variable {X:Cx}{i:Expr}{p pos:Pos}{ty:TE}{od:Addr}{x:Str}{kvs:List (Str×Addr)}
noncomputable def tKd (kvs:List (Str×Addr))(ty:TE):TE:=λσ H Q=>ty σ H λy H1=>∃ k f,y = .str k/\ma kvs k=some f/\Q (.ref f) H1
theorem Gn (O:A8 X.prog X.w X.K X.mg x od kvs)(hg:Gl X x)(hi:PE X i ty)(hs:JP i)(hd:(x==("__debug__" :Str))=false:=by decide):PE X (.Subscript (.Name x p) i pos) (tKd kvs ty):=by
 intro pins s σ H Q I h
 have ho:PE X (.Name x p) (tC (.ref od)):=jB hg O.m rfl hd
 refine Fi PySem.F.slot_dict_getitem.lookup hs (thn (ho pins s σ H _ I (show tC (.ref od) σ H (λx H1=>x = .ref od/\H1=H) from⟨rfl,rfl⟩)) λu s1 ⟨x,H1,I1,rx,ex,eH⟩=>?_)
 subst ex eH
 obtain rfl:u=Value.ref od:=rx
 refine thn (hi pins s1 σ H1 _ I1 h) λiv s2 ⟨y,H2,I2,ry,k,f,ey,hm,q⟩=>?_
 subst ey
 have dd:=O.d s2.heap I2.kIn
 have hT:s2.TypeIs (.ref od) "dict" :=by
  obtain⟨o,es,ep,h1,h2,_⟩:=dd
  exact⟨o,h1,h2.1⟩
 refine⟨hT,?_⟩
 refine wpAny_getItem_of (k:=.inr k) (zQ (P:=X.prog) (w:=X.w) (k:=.inr k) ry) dd.mapOf (v:=.ref f) (by rw[Ey,hm];rfl) ⟨.ref f,H2,I2.tok _,rfl,q⟩
noncomputable def ID (kvs:List (Str×Addr))(ty:TE):TE:=λσ H Q=>ty σ H λy H1=>∃ k,y = .str k/\Q (.bl (ma kvs k).isSome) H1
theorem Bt (O:A8 X.prog X.w X.K X.mg x od kvs)(hs:(od==sysModules)=false)(hg:Gl X x)(hi:PE X i ty)(hd:(x==("__debug__" :Str))=false:=by decide):PC X .In i (.Name x p) (ID kvs ty):=by
 intro pins s σ H Q I h
 have ho:PE X (.Name x p) (tC (.ref od)):=jB hg O.m rfl hd
 refine thn (hi pins s σ H _ I h) λiv s1 ⟨y,H1,I1,ry,k,ey,q⟩=>?_
 subst ey
 refine thn (ho pins s1 σ H1 _ I1 (show tC (.ref od) σ H1 (λx H2=>x = .ref od/\H2=H1) from⟨rfl,rfl⟩)) λu s2 ⟨x,H2,I2,rx,ex,eH⟩=>?_
 subst ex eH
 obtain rfl:u=Value.ref od:=rx
 have dd:=O.d s2.heap I2.kIn
 refine wpAny_in_of (zQ (P:=X.prog) (w:=X.w) (k:=.inr k) ry) hs dd.mapOf ?_
 rw[Ey,Option.isSome_map]
 exact⟨.bl _,H2,I2.tok _,rfl,q⟩
variable {CX:CXT}{k:Nat}{E:XK}{e:Expr}{es:List Expr}{t:TA}
noncomputable def FnV (P:Program)(w:World)(K:PySem.W.Frag)(mg:Str->Option Value)(base:Heap)(CX:CXT)(k:Nat)(f:Addr)(sp:Sp):Prop:=∃ fd ps,fm P w K mg base CX k f fd ps sp/\PySem.W.keepIn K (.ref f)=true/\Binds K fd ps []
noncomputable def GW (P:Program)(w:World)(K:PySem.W.Frag)(mg:Str->Option Value)(base:Heap)(CX:CXT)(k:Nat)(E:XK)(j:Nat)(t:TA):TE:=λσ H Q=>∃ f sp,σ[j]? = some (some (.ref f))/\FnV P w K mg base CX k f sp/\t σ H λvs H1=>sp vs H1 Q E
theorem zf (j:Nat)(hN:X.N[j]? = some x)(hv:Vis X.env.scope x)(hr:lE k X.A)(hx:Passes CX X E)(ha:PA X (e::es) t)
  (hdb:(x==("__debug__" :Str))=false:=by decide) (hcd:(x==("__classdict__" :Str))=false:=by decide) (he:starEach (e::es) X.env=(false,eval e X.env)::starEach es X.env:=by rfl) (hpl:(backTo pos (starEach es X.env)).any (·.1)=false:=by rfl):
  PE X (.Call (.Name x p) (e::es) [] pos) (GW X.prog X.w X.K X.mg X.base CX k E j t):=by
 intro pins s σ H Q I h
 obtain⟨f,sp,hσ,⟨fd,ps,F,hk,hb⟩,h⟩:=h
 have ho:PE X (.Name x p) (Cf j):=DX hN hv hdb hcd
 refine cT ?_
 refine thn (ho pins s σ H (λx H1=>x = .ref f/\H1=H) I ⟨_,hσ,rfl,rfl⟩) λu s1 ⟨x,H1,I1,rx,ex,eH⟩=>?_
 subst ex eH
 obtain rfl:u=Value.ref f:=rx
 refine PySem.W.callWith_K (h₀:=X.base) I1.ok.mod.kin hk (thn (ha pos pins s1 σ H1 _ I1 h) λus s2 ⟨vs,H2,I2,r,q⟩=>⟨I2.kIn,?_⟩) he hpl
 exact DI (ds:=[]) (dvs:=[]) F hr hb .nil hx I2 r (by rw[bN];exact q)
section
variable {X:Cx}
theorem C9 (hc:X.calm=true):jN X (.builtin "min") (λxs H Q=>∃ (a:Addr) (ns:List Int),xs = [.ref a]/\SqL X.K H a (ns.map V.int)/\ns≠ []/\∀ m,m∈ns->(∀ x∈ns,m<=x)->Q (.int m) H):=by
 intro pins s σ H xs us Q I r h
 obtain⟨a,ns,rfl,hx,hne,q⟩:=h
 obtain⟨u,rfl,ru⟩:=vals1 r
 cases ru
 obtain⟨its,rv,p,hz⟩:=I.list hx
 have hi:IntsAre its ns:=intsAre_of rv
 obtain⟨xs,hx⟩:=hi.allInts.items
 have hl':s.heap.IsList a (intItems xs):=hx ▸ p.isList
 have e1:ns=xs.toList.map (·.1):=by
  rw[<-nums_intItems,<-hx]
  exact(show numsOf its.toArray.toList=ns from hi.numsOf).symm
 have hsz:0<xs.size:=by
  cases ns with
  |nil=>exact absurd rfl hne
  |cons y r=>have:=cg List.length e1;simp at this;omega
 refine min_intList (I.ok.hd hc) hl' hsz λv h' tk hv hk=>?_
 obtain⟨t,rfl⟩:=intItems_at hv
 obtain⟨h1,h2⟩:=argBest_lt (numAt xs) (xs.size-1)
 refine⟨.int _,H,I.kept (t':=tk) hk,⟨_,rfl⟩,q _ ?_ λy hy=>?_⟩
 ·rw[e1,numAt_eq];exact getD_mem (by rw[aa,ah];omega)
 ·rw[e1]at hy
  obtain⟨j,hj,rfl⟩:=mem_getD hy
  rw[aa,ah]at hj
  rw[<-numAt_eq];exact h2 j (by omega)
theorem De (hc:X.calm=true):jN X (.builtin "max") (λxs H Q=>∃ (a:Addr) (ns:List Int),xs = [.ref a]/\SqL X.K H a (ns.map V.int)/\ns≠ []/\∀ m,m∈ns->(∀ x∈ns,x<=m)->Q (.int m) H):=by
 intro pins s σ H xs us Q I r h
 obtain⟨a,ns,rfl,hx,hne,q⟩:=h
 obtain⟨u,rfl,ru⟩:=vals1 r
 cases ru
 obtain⟨its,rv,p,hz⟩:=I.list hx
 have hi:IntsAre its ns:=intsAre_of rv
 obtain⟨xs,hx⟩:=hi.allInts.items
 have hl':s.heap.IsList a (intItems xs):=hx ▸ p.isList
 have e1:ns=xs.toList.map (·.1):=by
  rw[<-nums_intItems,<-hx]
  exact(show numsOf its.toArray.toList=ns from hi.numsOf).symm
 have hsz:0<xs.size:=by
  cases ns with
  |nil=>exact absurd rfl hne
  |cons y r=>have:=cg List.length e1;simp at this;omega
 refine max_intList (I.ok.hd hc) hl' hsz λv h' tk hv hk=>?_
 obtain⟨t,rfl⟩:=intItems_at hv
 obtain⟨h1,h2⟩:=argBest_gt (numAt xs) (xs.size-1)
 refine⟨.int _,H,I.kept (t':=tk) hk,⟨_,rfl⟩,q _ ?_ λy hy=>?_⟩
 ·rw[e1,numAt_eq];exact getD_mem (by rw[aa,ah];omega)
 ·rw[e1]at hy
  obtain⟨j,hj,rfl⟩:=mem_getD hy
  rw[aa,ah]at hj
  rw[<-numAt_eq];exact h2 j (by omega)
end
section
variable {X:Cx}{CX:CXT}{k:Nat}{f C:Addr}{fd:FuncData}{ps:List Str}{sp:Sp}{E:L2.St->XK}{x m:Str}{p pos apos:Pos}{e o:Expr}{es:List Expr}{t:TA}{ta:TE}
noncomputable def GU (C:Addr)(m:Str)(sp:Sp)(E:L2.St->XK)(ta:TE)(t:TA):TE:=λσ H Q=>ta σ H λx H1=>∃ a dx fs,x = .ref a/\H1 a=some (.ins C dx fs)/\fs.lookup m=none/\t σ H1 λvs H2=>sp (x::vs) H2 Q (E σ)
theorem DZ {pl:Sem Bool}(he:PE X o ta)(c:Cls X.K C)(hm:Meth X.K C m f)(F:fm X.prog X.w X.K X.mg X.base CX k f fd ps sp)(hr:lE k X.A)(hb:Binds X.K fd ps [])(hx:BX CX X E)(ha:PA X (e::es) t)
  (hst:starEach (e::es) X.env=(false,eval e X.env)::starEach es X.env:=by rfl) (hpl:(backTo pos (starEach es X.env)).any (·.1)=false:=by rfl)
  (ht:eval (.Call (.Attribute o m apos) (e::es) [] pos) X.env=(do
   let ov <-eval o X.env
   standAt apos.atName
   let (f,first) <-holding [ov] (getMethod ov m pl)
   callWith pos f first (backTo pos (starEach (e::es) X.env)) (backToKw pos (keywordEach [] X.env))):=by rfl):
  PE X (.Call (.Attribute o m apos) (e::es) [] pos) (GU C m sp E ta t):=by
 intro pins s σ H Q I h
 refine PySem.W.methodCall_KW (pl:=pl) (thn (he pins s σ H _ I h) λu s1 ⟨x,H1,I1,rx,a,dx,fs,ex,ea,l,q⟩=>?_) ht
 subst ex
 obtain rfl:u=Value.ref a:=rx
 refine A0 I1 ea c hm l ?_
 refine PySem.W.callWith_K (first:=[.ref a]) (h₀:=X.base) I.ok.mod.kin hm.kp (thn (ha pos pins s1 σ H1 _ I1 q) λus s2 ⟨vs,H2,I2,r,q2⟩=>⟨I2.kIn,?_⟩) hst hpl
 have r2:Vals (.ref a::vs) (.ref a::us):=.cons rfl r
 have hl:((.ref a::us:List Value) ++ []).length=ps.length:=by rw[bN,<-r2.length];exact F.len _ _ _ _ q2
 refine wpAny_call (eP (F.run X.A X.stack s2 H2 ⟨.ref a::us,[]⟩ ((.ref a::us) ++ []) (.ref a::vs) Q (E σ) hr I2.HU (hb s2 (.ref a::us) I2.kIn hl) (by rw[bN];exact r2) q2) λr s' hq=>?_)
 cases r with
 |error e=>exact hx pins σ H2 s2 e s' I2 hq
 |ok fl=>
  cases fl with
  |ret u=>exact I2.after hq
  |next=>exact False.elim hq
  |brk=>exact False.elim hq
  |cont=>exact False.elim hq
end
noncomputable def LI (o:Option HO):Prop:=(∃ C dx fs,o=some (.ins C dx fs))\/∃ xs,o=some (.lst xs)
variable {p:Addr->Prop}{H:Hp}
theorem Bc {a:Addr}{xs:List V}(hp:∀ a,p a->LI (H a))(h:SqT K H a xs):SqT K (gm p H) a xs:=by
 rcases h with(h |⟨o,h⟩)|h
 ·refine .inl (.inl ?_)
  rw[gL];exact h
  intro z
  rcases hp a z with⟨_,_,_,e⟩|⟨_,e⟩<;>rw[h]at e<;>cases e
 ·refine .inl (.inr ⟨o,?_⟩)
  rw[gL];exact h
  intro z
  rcases hp a z with⟨_,_,_,e⟩|⟨_,e⟩<;>rw[h]at e<;>cases e
 ·exact .inr h
theorem G8 (hp:∀ a,p a->LI (H a)){js:List (Int×Int)}{vs:List V}(h:Ps K H js vs):Ps K (gm p H) js vs:=Dgs.mono (λ_ _ h=>h) (λ_ _ h=>Bc hp h) h
theorem rh {a t:Addr}{us:List V}{l:Ln}(hp:∀ a,p a->LI (H a))(h1:H a=some (.tup [.int l.1,.ref t]))(h2:H t=some (.lst us))(h3:Ps K H l.2 us)(ht:¬p t):Da K (gm p H) (dL l) (.ref a):=by
 have hps:=G8 hp h3
 have e1:gm p H t=some (.lst us):=by rw[gL ht];exact h2
 exact gC.mpr ⟨a,_,rfl,Bc hp (SqT.of h1),Dgs.two (gD.mpr rfl) (hps.da e1)⟩
noncomputable abbrev DS:=Option Ln×Option (List Int)
noncomputable def VL (K:PySem.W.Frag)(H:Hp):Option Ln->V->Prop
 |none,v=>v = .non
 |some l,v=>Da K H (dL l) v
noncomputable def VT (K:PySem.W.Frag)(H:Hp):Option (List Int)->V->Prop
 |none,v=>v = .non
 |some t,v=>Da K H (dI t) v
variable {H':Hp}
theorem VL.same (s:fk H H'):∀ {o:Option Ln}{v:V},VL K H o v->VL K H' o v
 |none,_,h=>h
 |some _,_,h=>Da.same s h
theorem VT.same (s:fk H H'):∀ {o:Option (List Int)}{v:V},VT K H o v->VT K H' o v
 |none,_,h=>h
 |some _,_,h=>Da.same s h
noncomputable def Oth (d:Addr)(H H':Hp):Prop:=∀ a o,a≠d->H a=some o->H' a=some o
variable {d:Addr}
theorem fk.oth (s:fk H H'):Oth d H H':=λa o _ h=>s a o h
theorem Oth.trans {H'':Hp}(s:Oth d H H')(t:Oth d H' H''):Oth d H H'':=λa o n h=>t a o n (s a o n h)
theorem Oth.upd {d:Addr}{H H':Hp}{o:HO}(s:Oth d H H'):Oth d H (upd H' d o):=λa u n h=>by rw[fE n];exact s a u n h
theorem Oth.hid (s:Oth d H H')(pd:p d):fk (gm p H) (gm p H'):=λa o h=>by
 by_cases z:p a
 ·rw[qb z]at h;cases h
 ·rw[gL z]at h ⊢
  exact s a o (λe=>z (by rw[e];exact pd)) h
structure Dsk (K:PySem.W.Frag)(C:Addr)(p:Addr->Prop)(H:Hp)(d:Addr)(S:DS):Prop where
 at_:∃ dx v u,H d=some (.ins C dx [("line",v),("train",u)])/\VL K (gm p H) S.1 v/\VT K (gm p H) S.2 u
 pd:p d
 li:∀ a,p a->LI (H a)
theorem LI.same (s:fk H H')(h:∀ a,p a->LI (H a)):∀ a,p a->LI (H' a):=λa pa=>by
 rcases h a pa with⟨C,dx,fs,e⟩|⟨xs,e⟩
 ·exact .inl ⟨C,dx,fs,s _ _ e⟩
 ·exact .inr ⟨xs,s _ _ e⟩
theorem LI.upd {o:HO}(h:∀ a,p a->LI (H a))(ho:LI (some o)):∀ a,p a->LI (L2.upd H d o a):=λa pa=>by
 by_cases e:a=d
 ·rw[e,eZ];exact ho
 ·rw[fE e];exact h a pa
theorem Dsk.same {C:Addr}{S:DS}(h:Dsk K C p H d S)(s:fk H H'):Dsk K C p H' d S:=by
 obtain⟨dx,v,u,h1,h2,h3⟩:=h.at_
 exact⟨⟨dx,v,u,s _ _ h1,h2.same (hG s),h3.same (hG s)⟩,h.pd,LI.same s h.li⟩
structure Stt (K:PySem.W.Frag)(p:Addr->Prop)(H:Hp)(d:Addr)(S:DS):Prop where
 at_:∃ v u,H d=some (.lst [v,u])/\VL K (gm p H) S.1 v/\VT K (gm p H) S.2 u
 pd:p d
 li:∀ a,p a->LI (H a)
theorem Stt.same {S:DS}(h:Stt K p H d S)(s:fk H H'):Stt K p H' d S:=by
 obtain⟨v,u,h1,h2,h3⟩:=h.at_
 exact⟨⟨v,u,s _ _ h1,h2.same (hG s),h3.same (hG s)⟩,h.pd,LI.same s h.li⟩
theorem Stt.oth {d':Addr}{S:DS}(h:Stt K p H d S)(s:Oth d' H H')(ne:d≠d')(pd:p d')(li:∀ a,p a->LI (H' a)):Stt K p H' d S:=by
 obtain⟨v,u,h1,h2,h3⟩:=h.at_
 exact⟨⟨v,u,s _ _ ne h1,h2.same (s.hid pd),h3.same (s.hid pd)⟩,h.pd,li⟩
section
variable {D:Ends}{σ:L2.St}{H:Hp}
theorem nm {t R:TS}(h:∀ r:TS,(∀ D σ H,R D σ H->r D σ H)->Fg t r D σ H):Fg t R D σ H:=h R λ_ _ _ z=>z
theorem kW {a:Addr}{xs:List V}{g:TG}{tb:TS}(Pv:Nat->L2.St->Hp->Prop)(h0:Pv 0 σ H)(hl:∀ i σ H,i<=xs.length->Pv i σ H->SqL K H a xs)
  (hs:∀ i x σ H (N:L2.St->Hp->Prop) (R:VK) (B:L2.St->Hp->Prop),(∀ σ' H',Pv (i+1) σ' H'->N σ' H')->(∀ v H',D.rt v H'->R v H')->xs[i]? = some x->Pv i σ H->g x σ H λσ2 H2=>tb ⟨N,R,B,N⟩ σ2 H2) (hd:∀ σ H,Pv xs.length σ H->D.nx σ H):
  ∃ W:Nat->Nat->L2.St->Hp->Prop,(∃ m,W 0 m σ H)/\∀ i m σ H,W i m σ H->
   ((Itl K a).stop i H/\D.nx σ H)\/((Itl K a).go i H/\∃ N:L2.St->Hp->Prop,(∀ σ' H',N σ' H'->∃ m',m'<m/\W (i+1) m' σ' H')/\∀ x H',(Itl K a).yld i H x H'->g x σ H' λσ2 H2=>tb {D with nx:=N,ct:=N,bk:=D.nx} σ2 H2):=
 pI Pv h0 hl (λi x σ H hx p=>hs i x σ H _ _ _ (λ_ _ z=>z) (λ_ _ z=>z) hx p) hd
theorem vC {lo:Int}{n:Nat}{g:TG}{tb:TS}(Pv:Nat->L2.St->Hp->Prop)(h0:Pv 0 σ H)
  (hs:∀ i σ H (N:L2.St->Hp->Prop) (R:VK) (B:L2.St->Hp->Prop),(∀ σ' H',Pv (i+1) σ' H'->N σ' H')->(∀ v H',D.rt v H'->R v H')->i<n->Pv i σ H->g (.int (lo+i)) σ H λσ2 H2=>tb ⟨N,R,B,N⟩ σ2 H2) (hd:∀ σ H,Pv n σ H->D.nx σ H):
  ∃ W:Nat->Nat->L2.St->Hp->Prop,(∃ m,W 0 m σ H)/\∀ i m σ H,W i m σ H->
   ((Itr lo n).stop i H/\D.nx σ H)\/((Itr lo n).go i H/\∃ N:L2.St->Hp->Prop,(∀ σ' H',N σ' H'->∃ m',m'<m/\W (i+1) m' σ' H')/\∀ x H',(Itr lo n).yld i H x H'->g x σ H' λσ2 H2=>tb {D with nx:=N,ct:=N,bk:=D.nx} σ2 H2):=
 sv Pv h0 (λi σ H hx p=>hs i σ H _ _ _ (λ_ _ z=>z) (λ_ _ z=>z) hx p) hd
end
end TL
namespace TL
open PySem L2 PyProof.Rows
theorem zB {ks:List Int}{n:Int}(hn:ks.Nodup)(hb:∀ k∈ks,0<=k/\k<n):ks.length<=n.toNat:=by
 have:(ks.map Int.toNat).Nodup:=by
  rw[List.Nodup,ck]
  refine df (λ{a b} ha hb' hne z=>hne ?_) hn
  have:=hb a ha
  have:=hb b hb'
  omega
 have h2:∀ x∈ks.map Int.toNat,x∈List.range n.toNat:=λx hx=>by
  obtain⟨k,hk,rfl⟩:=aH.mp hx
  have:=hb k hk
  exact bT.mpr (by omega)
 have:=uk this h2
 simpa using this
end TL
namespace K81
open PySem L2 TL PyProof.Rows
noncomputable abbrev St:=L2.St
noncomputable def top (i:Nat):Stmt:=PySem.Challenge.pw_turnline_k81_desk_moves.main.body.getD i (.Pass ⟨0,0,0,0⟩)
noncomputable def ki:Sp:=λvs H Q _=>∃ e:Int,vs = [.int e]/\Q (.int (oth e)) H
noncomputable def qR:Sp:=λvs H Q _=>∃ e:Int,vs = [.int e]/\Q (.int (e/2)) H
noncomputable def xB (K:PySem.W.Frag):Sp:=λvs H Q _=>∃ (a:Addr) (ns:List Int) (k:Int),vs = [.ref a,.int k]/\SqL K H a (ns.map V.int)/\0<=k/\∀ c,Q (.int c) H
noncomputable def xx:Sp:=λvs H Q _=>∃ c k:Int,vs = [.int c,.int k]/\0<=k/\k<=1000/\∀ n,0<=n->n<2147483648->Q (.int n) H
noncomputable abbrev jZ:Stmt:=top 12
theorem xE:fC ["end"] ["end"] (fh jZ):=⟨rfl,rfl,rfl,by decide +kernel,rfl,by decide +kernel,by decide +kernel⟩
noncomputable abbrev jU:Stmt:=top 13
theorem yZ:fC ["end"] ["end"] (fh jU):=⟨rfl,rfl,rfl,by decide +kernel,rfl,by decide +kernel,by decide +kernel⟩
noncomputable abbrev jm:Stmt:=top 87
theorem xF:fC ["_law_end"] ["_law_end"] (fh jm):=⟨rfl,rfl,rfl,by decide +kernel,rfl,by decide +kernel,by decide +kernel⟩
noncomputable abbrev jL:Stmt:=top 85
theorem uu:fC ["_law_script","_law_k"] ["_law_script","_law_k"] (fh jL):=⟨rfl,rfl,rfl,by decide +kernel,rfl,by decide +kernel,by decide +kernel⟩
noncomputable abbrev me:Stmt:=top 86
theorem mj:fC ["_law_cell","_law_k","_law_time","_law_number"] ["_law_cell","_law_k"] (fh me):=⟨rfl,rfl,rfl,by decide +kernel,rfl,by decide +kernel,by decide +kernel⟩
section
variable {P:Program}{w:World}{K:PySem.W.Frag}{mg:Str->Option Value}{base:Heap}{f:Addr}{fd:FuncData}
theorem oq (F:Fn K mg "other_end" jZ ["end"] f fd):fm P w K mg base CX0 1 f fd ["end"] ki:=by
 refine F.F.ok xE (λvs H Q E h=>?_) (λcdv A outer s H vs Q E hr h=>?_)
 ·obtain⟨e,rfl,_⟩:=h;rfl
 ·obtain⟨e,rfl,k⟩:=h
  refine⟨_,(fe (fz (fo Hf (pv 0) fc))),?_⟩
  refine⟨_,rfl,_,_,rfl,rfl,?_⟩
  show Q (.int (Builtin.bitXor e 1)) H
  rw[E7];exact k
theorem mY (F:Fn K mg "piece_of" jU ["end"] f fd):fm P w K mg base CX0 1 f fd ["end"] qR:=by
 refine F.F.ok yZ (λvs H Q E h=>?_) (λcdv A outer s H vs Q E hr h=>?_)
 ·obtain⟨e,rfl,_⟩:=h;rfl
 ·obtain⟨e,rfl,k⟩:=h
  refine⟨_,(fe (fz (fo gH (pv 0) fc))),?_⟩
  exact⟨_,rfl,_,_,rfl,rfl,⟨by decide,by decide⟩,k⟩
theorem lY (F:Fn K mg "_law_other" jm ["_law_end"] f fd):fm P w K mg base CX0 1 f fd ["_law_end"] ki:=by
 refine F.F.ok xF (λvs H Q E h=>?_) (λcdv A outer s H vs Q E hr h=>?_)
 ·obtain⟨e,rfl,_⟩:=h;rfl
 ·obtain⟨e,rfl,k⟩:=h
  refine⟨_,(fe (fz (fo xU (fo jd (pv 0) fc) (fo jt (fo gM (pv 0) fc) fc)))),?_⟩
  refine⟨_,rfl,_,_,rfl,rfl,_,rfl,_,_,rfl,rfl,by show(0:Int)<2;decide,_,_,rfl,rfl,.inr ⟨by decide,by decide⟩,_,_,rfl,rfl,?_⟩
  show Q (.int (e+1-e%2*2)) H
  have:e+1-e%2*2=oth e:=by unfold oth;omega
  rw[this];exact k
theorem pD (F:Fn K mg "_law_cell_at" jL ["_law_script","_law_k"] f fd)(B:Bl mg):fm P w K mg base CX0 1 f fd ["_law_script","_law_k"] (xB K):=by
 refine F.F.ok uu (λvs H Q E h=>?_) (λcdv A outer s H vs Q E hr h=>?_)
 ·obtain⟨a,ns,k,rfl,_⟩:=h;rfl
 ·obtain⟨a,ns,k,rfl,hS,h0,q⟩:=h
  refine⟨_,(fb (gf (gw (tq (pv 1) (gd iB rfl B.len dZ (eW (pv 0) eX))))
 (fe (fz (gr gh (pv 0) (pv 1) (λ_ _=>rfl)))) fD)
 (fe (fz fc))),?_⟩
  refine⟨_,rfl,_,rfl,a,_,rfl,.inl hS,_,_,rfl,rfl,_,rfl,fY (λhlt=>?_) (λ_=>?_)⟩
  ·have hlt:k<((ns.map V.int).length:Int):=by simpa using hlt
   rw[aa]at hlt
   have hg:(ns.map V.int)[k.toNat]? = some (V.int (ns.getD k.toNat 0)):=by
    rw[aq,bw]
    have:k.toNat<ns.length:=by omega
    simp[this]
   have e1:((k.toNat:Nat):Int)=k:=by omega
   exact⟨_,rfl,_,rfl,a,_,k,_,rfl,rfl,hS,by have h:=jS hg;rw[e1]at h;exact h,q _⟩
  ·exact q _
theorem qz (F:Fn K mg "_law_mix" me ["_law_cell","_law_k"] f fd)(B:Bl mg):fm P w K mg base CX0 1 f fd ["_law_cell","_law_k"] xx:=by
 refine F.F.ok mj (λvs H Q E h=>?_) (λcdv A outer s H vs Q E hr h=>?_)
 ·obtain⟨c,k,rfl,_⟩:=h;rfl
 ·obtain⟨c,k,rfl,h0,h1,q⟩:=h
  refine⟨_,(fb (gf (gw (Gp (pv 0) (fo AD fc fc)))
 (fb (jq bH rfl (p6 rfl B.range (eW (pv 1) eX)) (ft (i:=2) mj.nd rfl (Or.inl rfl))
 (fe (fQ (i:=0) mj.nd rfl (Or.inl rfl) (fo gH (pv 0) (fo AD fc fc)))))
 (fe (fz (fo gM (pv 0) (fo AD fc fc))))) fD)
 (fb (fQ (i:=3) mj.nd rfl (Or.inl rfl) (fo gM (fo jt (fo jd (fo jd (fo gM (pv 0) fc) (fo jt (fo jt (pv 1) (pv 1)) fc)) (pv 1)) fc) fc))
 (fb (fQ (i:=3) mj.nd rfl (Or.inl rfl) (fo gM (fo jt (pv 3) (pv 3)) fc))
 (fe (fz (fo gH (fo gM (fo jt (pv 3) (fo jd (pv 3) fc)) fc) fc)))))),?_⟩
  refine⟨_,rfl,_,_,rfl,rfl,⟨by decide,by decide,by decide⟩,_,_,rfl,rfl,_,rfl,fY (λhlt=>?_) (λ_=>?_)⟩
  ·refine⟨_,rfl,_,rfl,by omega,by omega,sv (λi σ H2=>H2=H/\∃ (c:Int) (x:Option V),σ = [some (.int c),some (.int k),x,none]) ⟨rfl,c,none,rfl⟩ ?_ ?_⟩
   ·rintro i σ H2 hi ⟨rfl,c,x,rfl⟩
    exact⟨_,rfl,_,_,rfl,rfl,⟨by decide,by decide,by decide⟩,_,_,rfl,rfl,⟨by decide,by decide⟩,rfl,_,_,rfl⟩
   ·rintro σ H2 ⟨rfl,c,x,rfl⟩
    refine⟨_,rfl,_,_,rfl,rfl,⟨by decide,by decide,by decide⟩,_,_,rfl,rfl,(by show(0:Int)<_;decide),q _ ?_ ?_⟩
    ·show 0<=c%(10 ^ 6);omega
    ·show c%(10 ^ 6)<_;omega
  ·refine⟨_,rfl,_,_,rfl,rfl,(by show(0:Int)<_;decide),_,rfl,_,rfl,_,_,rfl,rfl,.inl ⟨by omega,by omega⟩,_,_,rfl,rfl,.inr ⟨by decide,by decide⟩,_,_,rfl,rfl,_,rfl,_,_,rfl,rfl,_,_,rfl,rfl,.inr ⟨by decide,by decide⟩,_,_,rfl,rfl,(by show(0:Int)<_;decide),?_⟩
   dsimp only
   generalize hn:(c%1000003+k*k*7919+k)*48271%2147483629=n
   have n0:0<=n:=by omega
   have n1:n<2147483629:=by omega
   refine⟨_,rfl,_,rfl,_,_,rfl,rfl,.inl ⟨by omega,by omega⟩,_,_,rfl,rfl,(by show(0:Int)<_;decide),?_⟩
   dsimp only
   generalize hm:n*n%2147483587=m
   have m0:0<=m:=by omega
   have m1:m<2147483587:=by omega
   refine⟨_,rfl,_,rfl,_,_,rfl,rfl,_,_,rfl,rfl,.inl ⟨by omega,by omega⟩,_,_,rfl,rfl,(by show(0:Int)<_;decide),_,_,rfl,rfl,⟨by decide,by decide⟩,q _ ?_ ?_⟩
   ·show 0<=m*(m+2)%2147483579/7;omega
   ·show m*(m+2)%2147483579/7<_;omega
end
variable {H:Hp}
theorem t7 {t u:TS}{D:Ends}{σ:St}(J:St->Hp->Prop)(first:∀ nx:St->Hp->Prop,(∀ σ' H',J σ' H'->nx σ' H')->t {D with nx:=nx} σ H)(rest:∀ σ' H',J σ' H'->u D σ' H'):Fg t u D σ H:=
 first (u D) rest
structure Cl (mg:Str->Option Value)(t1 t2:Tok):Prop where
 tM:mg "MOST_PIECES" = some (.int 40 t1)
 tN:mg "MOST_JOINTS" = some (.int 80 t2)
structure Xl (K:PySem.W.Frag)(mg:Str->Option Value)(c:Addr):Prop where
 je:Xc K mg "NoLine" c
noncomputable def yV (K:PySem.W.Frag):Sp:=λvs H Q _=>∃ (a:Addr) (m e:Int) (x:V),vs = [.ref a,.int e]/\SqT K H a [.int m,x]/\Q (.bl (decide (0<=e/\e<2*m))) H
noncomputable def Gk (K:PySem.W.Frag)(C:Addr):Sp:=λvs H Q E=>∃ (a b:Addr) (m:Int) (x:V) (p:Int×Int),vs = [.ref a,.ref b]/\SqT K H a [.int m,x]/\SqT K H b [.int p.1,.int p.2]/\
 (okJ m p->Q .non H)/\(¬okJ m p->∀ e,H e=none->E (.ref C) (some e) H)
noncomputable def Gj (K:PySem.W.Frag)(C:Addr):Sp:=λvs H Q E=>∃ (v:V) (l:Ln),vs = [v]/\Da K H (dL l) v/\l.2.length<=100000/\(fW l->∀ H',fk H H'->Q .non H')/\(¬fW l->∀ H',fk H H'->∀ e,H' e=none->E (.ref C) (some e) H')
noncomputable abbrev nI:Stmt:=top 14
theorem wK:fC ["line","end"] ["line","end"] (fh nI):=⟨rfl,rfl,rfl,by decide +kernel,rfl,by decide +kernel,by decide +kernel⟩
noncomputable abbrev lq:Stmt:=top 16
theorem mq:fC ["line","joint","low","high"] ["line","joint"] (fh lq):=⟨rfl,rfl,rfl,by decide +kernel,rfl,by decide +kernel,by decide +kernel⟩
noncomputable abbrev lW:Stmt:=top 15
theorem jK:fC ["line","many","joints","seen","joint"] ["line"] (fh lW):=⟨rfl,rfl,rfl,by decide +kernel,rfl,by decide +kernel,by decide +kernel⟩
variable {f1 f2 f3:Addr}{fd1 fd2 fd3:FuncData}
section
variable {P:Program}{w:World}{K:PySem.W.Frag}{mg:Str->Option Value}{base:Heap}{f:Addr}{fd:FuncData}{c1:Addr}{t1 t2:Tok}
theorem Cv (F:Fn K mg "is_end" nI ["line","end"] f fd):fm P w K mg base CX0 1 f fd ["line","end"] (yV K):=by
 refine F.F.ok wK (λvs H Q E h=>?_) (λcdv A outer s H vs Q E hr h=>?_)
 ·obtain⟨a,m,e,x,rfl,_⟩:=h;rfl
 ·obtain⟨a,m,e,x,rfl,ht,k⟩:=h
  refine⟨_,(fe (fz (ze Gr Gq fc (pv 1) (fo jt fc (gr lI (pv 0) fc (λ_ _=>rfl)))))),?_⟩
  refine⟨_,rfl,_,_,rfl,rfl,_,rfl,fY (λh=>?_) (λh=>?_)⟩
  ·have h:0<=e:=by simpa using h
   refine⟨_,rfl,a,_,_,_,rfl,rfl,ht,rfl,_,_,rfl,rfl,.inl ⟨by decide,by decide⟩,_,_,rfl,rfl,?_⟩
   have e1:decide (0<=e/\e<2*m)=decide (e<2*m):=by simp[h]
   rw[e1]at k
   exact k
  ·have h:¬0<=e:=by simpa using h
   have e1:decide (0<=e/\e<2*m)=false:=by simp[h]
   rw[e1]at k
   exact k
theorem uR (F:Fn K mg "check_joint" lq ["line","joint"] f fd)(XS:Xl K mg c1)(ir:Fn K mg "is_end" nI ["line","end"] f1 fd1)
  (fK:Fn K mg "piece_of" jU ["end"] f2 fd2):fm P w K mg base (CXr P w base) 2 f fd ["line","joint"] (Gk K c1):=by
 have rH:fm P w K mg base CX0 1 f1 fd1 ["line","end"] (yV K):=Cv ir
 have iV:fm P w K mg base CX0 1 f2 fd2 ["end"] qR:=mY fK
 refine F.F.okX mq (λvs H Q E h=>?_) (λcdv A outer s H vs Q E hr h=>?_)
 ·obtain⟨a,b,m,x,p,rfl,_⟩:=h;rfl
 ·obtain⟨a,b,m,x,⟨lo,hi⟩,rfl,hl,hj,k1,k2⟩:=h
  dsimp only at hj
  refine⟨_,(fb (mD (pv 1) (jr (n:=2) rfl (fH (ft (i:=2) mq.nd rfl (Or.inl rfl)) (fH (ft (i:=3) mq.nd rfl (Or.inl rfl)) g9))))
 (fb (gf (PW.pt (uC (kT (ni (fj rH (hr.mono (by decide)) rfl ir.m ir.F.kp ir.b .nil fM (eW (pv 0) (eW (pv 2) eX))))) (rT (kT (ni (fj rH (hr.mono (by decide)) rfl ir.m ir.F.kp ir.b .nil fM (eW (pv 0) (eW (pv 3) eX))))))))
 (fe (gN gu rfl rfl XS.je.m XS.je.q aG (eW fw eX))) fD)
 (fb (gf (gw (wO (pv 2) (pv 3)))
 (fe (gN gu rfl rfl XS.je.m XS.je.q aG (eW fw eX))) fD)
 (fe (gf (gw (qy (fj iV (hr.mono (by decide)) rfl fK.m fK.F.kp fK.b .nil fM (eW (pv 2) eX)) (fj iV (hr.mono (by decide)) rfl fK.m fK.F.kp fK.b .nil fM (eW (pv 3) eX))))
 (fe (gN gu rfl rfl XS.je.m XS.je.q aG (eW fw eX))) fD))))),?_⟩
  refine⟨_,rfl,b,_,rfl,hj,rfl,_,_,rfl,_,_,rfl,rfl,?_⟩
  refine⟨_,rfl,_,rfl,a,m,lo,x,rfl,hl,_,rfl,fY (λh=>?_) (λh=>?_)⟩
  ·have h:¬(0<=lo/\lo<2*m):=λz=>by simp[z]at h
   exact tW ⟨by decide,λe he=>k2 (λz=>h z.1) e he⟩
  have h1:0<=lo/\lo<2*m:=by simpa using h
  refine⟨_,rfl,_,rfl,a,m,hi,x,rfl,hl,_,rfl,fY (λh=>?_) (λh=>?_)⟩
  ·have h:¬(0<=hi/\hi<2*m):=λz=>by simp[z]at h
   exact⟨by decide,λe he=>k2 (λz=>h z.2.1) e he⟩
  have h2:0<=hi/\hi<2*m:=by simpa using h
  refine⟨_,rfl,_,rfl,_,_,rfl,rfl,_,rfl,fY (λh=>?_) (λh=>?_)⟩
  ·have h:lo>hi:=by simpa using h
   exact⟨by decide,λe he=>k2 (λz=>by have:=z.2.2.1;dsimp only at this;omega) e he⟩
  have h3:lo<=hi:=by have h:¬lo>hi:=(by simpa using h);omega
  refine⟨_,rfl,lo,rfl,_,rfl,hi,rfl,_,_,rfl,rfl,_,rfl,fY (λh=>?_) (λh=>?_)⟩
  ·have h:lo/2=hi/2:=by simpa using h
   exact⟨by decide,λe he=>k2 (λz=>z.2.2.2 h) e he⟩
  have h4:lo/2≠hi/2:=by simpa using h
  exact k1 ⟨h1,h2,h3,h4⟩
theorem wk (F:Fn K mg "check_line" lW ["line"] f fd)(XS:Xl K mg c1)(B:Bm mg)(C:Cl mg t1 t2)(jc:Fn K mg "check_joint" lq ["line","joint"] f3 fd3)
  (nA:fm P w K mg base (CXr P w base) 2 f3 fd3 ["line","joint"] (Gk K c1)):fm P w K mg base (CXr P w base) 3 f fd ["line"] (Gj K c1):=by
 refine F.F.okX jK (λvs H Q E h=>?_) (λcdv A outer s H vs Q E hr h=>?_)
 ·obtain⟨v,l,rfl,_⟩:=h;rfl
 ·obtain⟨v,⟨m,js⟩,rfl,hv,hz,k1,k2⟩:=h
  obtain⟨a,b,rfl,ht,us,hl,hq⟩:=oy hv
  dsimp only at ht hq hz
  have hul:us.length=js.length:=by rw[Dgs.length hq,aa]
  obtain⟨ps,rfl,xb,hT⟩:=zh hq
  have hpl:ps.length=js.length:=by rw[aa]at hul;exact hul
  refine⟨_,(fb (mD (pv 0) (jr (n:=2) rfl (fH (ft (i:=1) jK.nd rfl (Or.inl rfl)) (fH (ft (i:=2) jK.nd rfl (Or.inl rfl)) g9))))
 (fb (gf (PW.pt (uC (gw (tq (pv 1) fc)) (rT (gw (wO (pv 1) (jB (v:=.int 40) rfl C.tM ⟨_,rfl⟩))))))
 (fe (gN gu rfl rfl XS.je.m XS.je.q aG (eW (uG (i:=40) rfl C.tM ⟨_,rfl⟩ (by decide) (by decide)) eX))) fD)
 (fb (gf (gw (wO (gd iB rfl B.len dZ (eW (pv 2) eX)) (jB (v:=.int 80) rfl C.tN ⟨_,rfl⟩)))
 (fe (gN gu rfl rfl XS.je.m XS.je.q aG (eW (uG (i:=80) rfl C.tN ⟨_,rfl⟩ (by decide) (by decide)) eX))) fD)
 (fb (fQ (i:=3) jK.nd rfl (Or.inl rfl) (Az A5 rfl B.set boot_set))
 (fe (jq PassesOwn.leaving rfl (gg (pv 2)) (ft (i:=4) jK.nd rfl (Or.inl rfl))
 (fb (kC (fj nA (hr.mono (by decide)) rfl jc.m jc.F.kp jc.b .nil fU (eW (pv 0) (eW (pv 4) eX))))
 (fb (gf (gG (Hh (Gw hr)) (pv 4) (pv 3) (by with_unfolding_all rfl))
 (fe (gN gu rfl rfl XS.je.m XS.je.q aG (eW fw eX))) fD)
 (fe (kC (Hc PySem.F.slot_set_add PySem.F.type_set_add (Eg (Gw hr)) (pv 3) (eW (pv 4) eX)))))))))))),?_⟩
  refine⟨_,rfl,a,_,rfl,ht,rfl,_,_,rfl,_,_,rfl,rfl,?_⟩
  refine⟨_,rfl,_,_,rfl,rfl,_,rfl,fY (λh=>?_) (λh=>?_)⟩
  ·have h:m<1:=by simpa using h
   exact tW λz=>⟨by show 1<=sizeLine;decide,λe he=>k2 (λz=>by have:=z.1;dsimp only at this;omega) H (fk.refl _) e he⟩
  have h1:¬m<1:=by simpa using h
  refine⟨_,rfl,_,_,rfl,rfl,_,rfl,fY (λh=>?_) (λh=>?_)⟩
  ·have h:m>40:=by simpa using h
   exact λz=>⟨by show 1<=sizeLine;decide,λe he=>k2 (λz=>by have:=z.2.1;dsimp only at this;omega) H (fk.refl _) e he⟩
  have h2:¬m>40:=by simpa using h
  refine⟨_,rfl,b,_,rfl,.inl hl,_,_,rfl,rfl,_,rfl,fY (λh=>?_) (λh=>?_)⟩
  ·have h:((ps.map λp=>V.ref p.2).length:Int)>80:=by simpa using h
   rw[aa,hpl]at h
   exact λz=>⟨by show 1<=sizeLine;decide,λe he=>k2 (λz=>by have:=z.2.2.1;dsimp only at this;omega) H (fk.refl _) e he⟩
  have h3:¬((ps.map λp=>V.ref p.2).length:Int)>80:=by simpa using h
  rw[aa,hpl]at h3
  refine⟨rfl,λq nq=>?_⟩
  have sq:∀ xs,fk H (upd H q (sP P w q xs)):=λxs=>eY nq
  refine⟨_,rfl,b,rfl,⟨_,(sq []).seq hl⟩,pI (K:=K) (a:=b) (xs:=ps.map λp=>V.ref p.2) (λi σ H3=>∃ (xs:List (List Key×Addr)) (x4:Option V),σ = [some (.ref a),some (.int m),some (.ref b),some (.ref q),x4]/\H3=upd H q (sP P w q xs)/\Met ps i xs/\(∀ p∈js.take i,okJ m p)/\(js.take i).Nodup)
   ⟨[],none,rfl,rfl,Met.zero ps,λp hp=>by simp at hp,by simp⟩ (λi σ H3 _ ⟨xs,_,_,e,_⟩=>e ▸ (sq xs).seq hl) ?_ ?_⟩
  ·rintro i y σ H3 hi ⟨xs,x4,rfl,rfl,M,al,nd⟩
   rw[aq]at hi
   obtain⟨⟨ky,ad⟩,hpi,rfl⟩:∃ p,ps[i]? = some p/\y = .ref p.2:=by
    cases q:ps[i]? with
    |none=>rw[q]at hi;cases hi
    |some e=>rw[q]at hi;cases hi;exact⟨e,rfl,rfl⟩
   have hil:i<js.length:=by have:=(af.mp hpi).1;omega
   have hji:js[i]? = some js[i]:=ao hil
   have hky:ky=kP js[i]:=by
    have e1:(keysOf ps)[i]? = some ky:=by unfold keysOf;rw[aq,hpi];rfl
    rw[xb,aq,hji]at e1
    exact(bx e1).symm
   subst hky
   generalize js[i]=p at hji hpi
   have hta:SqT K H ad ((kP p).map kV):=hT (kP p,ad) (aD hpi)
   have htk:js.take (i+1)=js.take i ++ [p]:=by rw[bR,hji];rfl
   refine⟨_,rfl,_,rfl,a,ad,m,_,p,rfl,gT (sq xs) ht,gT (sq xs) hta,λhok=>?_,λhno e he=>k2 (λz=>hno (z.2.2.2.1 p (aD hji))) _ (sq xs) e he⟩
   have hTx:vK K (upd H q (sP P w q xs)) xs:=λx hx=>gT (sq xs) (hT x (M.sub x hx))
   have tY:kP p∈keysOf xs↔p∈js.take i:=by
    rw[M.key]
    have:keysOf (ps.take i)=(js.take i).map kP:=by unfold keysOf at xb ⊢;rw[dX,xb,dX]
    rw[this,Hn]
   refine⟨_,rfl,_,rfl,q,xs,kP p,ad,rfl,rfl,eZ,hTx,gT (sq xs) hta,_,rfl,fY (λh=>?_) (λh=>?_)⟩
   ·have h:p∈js.take i:=tY.mp (yk.mp h)
    refine⟨by decide,λe he=>k2 (λz=>?_) _ (sq xs) e he⟩
    have n2:=z.2.2.2.2
    dsimp only at n2
    have n3:(js.take (i+1)).Nodup:=n2.sublist (eO _ _)
    rw[htk]at n3
    exact(cS.mp n3).2.2 p h p (by simp) rfl
   ·have h:p∉js.take i:=λz=>h (yk.mpr (tY.mpr z))
    refine⟨_,rfl,⟨q,xs,rfl,eZ⟩,_,rfl,q,xs,kP p,ad,rfl,rfl,eZ,hTx,gT (sq xs) hta,?_,λz=>absurd (tY.mp z) h,λz xs' hp=>?_⟩
    ·have:=uk M.nd (m:=keysOf (ps.take i)) λk hk=>(M.key k).mp hk
     unfold keysOf at this
     rw[aa,aa,aN]at this
     omega
    refine⟨xs',_,rfl,nU,M.new hpi z hp,λx hx=>?_,?_⟩
    ·rw[htk]at hx
     rcases aJ.mp hx with z |z
     ·exact al x z
     ·have z:x=p:=by simpa using z
      rw[z];exact hok
    ·rw[htk]
     refine cS.mpr ⟨nd,by simp,λx hx y hy=>?_⟩
     have hy:y=p:=by simpa using hy
     rw[hy]
     exact λz=>h (z ▸ hx)
  ·rintro σ H3 ⟨xs,x4,rfl,rfl,M,al,nd⟩
   rw[aa,hpl,bW]at al nd
   exact k1 ⟨by show 1<=m;omega,by show m<=40;omega,by show js.length<=80;omega,al,nd⟩ _ (sq xs)
end
structure Ct (mg:Str->Option Value)(t3 t4:Tok):Prop where
 Ge:mg "FIGURES" = some (.str "0123456789" t3)
 rG:mg "MOST_FIGURES" = some (.int 40 t4)
structure Xx (K:PySem.W.Frag)(mg:Str->Option Value)(c:Addr):Prop where
 kL:Xc K mg "NoText" c
theorem OW:∀ c,(c∈(Str.ofString "0123456789").cps.toList)↔48<=c/\c<=57:=by
 have e:(Str.ofString "0123456789").cps.toList = [48,49,50,51,52,53,54,55,56,57]:=by decide +kernel
 intro c
 rw[e]
 simp only[aI,bP,dq]
 omega
theorem HP (c:Nat):(!(Builtin.Str.occurrences (Str.ofString "0123456789") ⟨#[c]⟩ 0 (Str.ofString "0123456789").length 1).isEmpty)=kM c:=by
 rw[PySem.StrLaws.found_one]
 unfold kM
 exact decide_eq_decide.mpr (OW c)
theorem str_len (z:Str):z.length=z.cps.toList.length:=by simp[Str.length]
theorem xt {z:Str} :z.length=0↔z.cps.toList = []:=by rw[str_len,eV]
theorem xq:Str.ofString "0" = mkS [48]:=by decide +kernel
theorem Bx:Str.ofString "<" = mkS [60]:=by decide +kernel
theorem BH:Str.ofString ">" = mkS [62]:=by decide +kernel
theorem kJ:Str.ofString " " = chS 32:=by decide +kernel
theorem FY:Str.ofString "\n" = chS 10:=by decide +kernel
theorem log2_small {n:Int}(h0:0<=n)(h1:n<100000):n.natAbs.log2<1920:=by
 have:n.natAbs.log2<=n.natAbs:=Nat.log2_le_self _
 have h2:n.natAbs<2 ^ 17:=by omega
 by_cases h:n.natAbs=0
 ·rw[h];decide
 ·have:=(Nat.log2_lt h).mpr h2
  omega
noncomputable def As (C:Addr):Sp:=λvs H Q E=>∃ z:Str,vs = [.str z]/\z.length<=100000/\(∀ n,mW z.cps.toList=some n->∀ H',fk H H'->Q (.int n) H')/\(mW z.cps.toList=none->∀ H',fk H H'->∀ e,H' e=none->E (.ref C) (some e) H')
noncomputable def qQ (C:Addr):Sp:=λvs H Q E=>∃ z:Str,vs = [.str z]/\z.length<=100000/\(∀ n,lC z.cps.toList=some n->∀ H',fk H H'->Q (.int n) H')/\(lC z.cps.toList=none->∀ H',fk H H'->∀ e,H' e=none->E (.ref C) (some e) H')
noncomputable def wds (z:Str):List Str:=Txt.split z (chS 32)
noncomputable def Dz (C:Addr):Sp:=λvs H Q E=>∃ (z y:Str) (m:Int),vs = [.str z,.str y,.int m]/\z.length<=100000/\y.length<=100/\0<=m/\m<100/\
 ((wds z).head?=some y->((wds z).length:Int)=m+1->∀ (p:Addr) (H':Hp),fk H H'->H p=none->H' p=some (.lst ((wds z).tail.map V.str))->Q (.ref p) H')/\
 (¬((wds z).head?=some y/\((wds z).length:Int)=m+1)->∀ H',fk H H'->∀ e,H' e=none->E (.ref C) (some e) H')
noncomputable def qu:Sp:=λvs H Q _=>∃ e:Int,vs = [.int e]/\0<=e/\e<82/\Q (.str (txE e)) H
noncomputable abbrev mw:Stmt:=top 54
theorem sV:fC ["end","piece"] ["end"] (fh mw):=⟨rfl,rfl,rfl,by decide +kernel,rfl,by decide +kernel,by decide +kernel⟩
noncomputable abbrev i7:Stmt:=top 57
theorem ur:fC ["text"] ["text"] (fh i7):=⟨rfl,rfl,rfl,by decide +kernel,rfl,by decide +kernel,by decide +kernel⟩
theorem nO:gq (fh i7) ["text"] {kind:=.function,names:=[(Str.ofString ".0",.local),(Str.ofString "sign",.local),(Str.ofString "FIGURES",.globalImplicit)],isGenerator:=false,isCoroutine:=false,more:=[]} ["sign"] 1 [none]:=⟨rfl,by decide +kernel,by decide +kernel,by decide +kernel,rfl,by decide +kernel,rfl,by decide +kernel⟩
noncomputable abbrev jT:Stmt:=top 58
theorem sX:fC ["text","piece"] ["text"] (fh jT):=⟨rfl,rfl,rfl,by decide +kernel,rfl,by decide +kernel,by decide +kernel⟩
noncomputable abbrev jj:Stmt:=top 59
theorem oV:fC ["row","word","many","words"] ["row","word","many"] (fh jj):=⟨rfl,rfl,rfl,by decide +kernel,rfl,by decide +kernel,by decide +kernel⟩
section
variable {P:Program}{w:World}{K:PySem.W.Frag}{mg:Str->Option Value}{base:Heap}{f:Addr}{fd:FuncData}{D c1 c2 c3 c4 c5 c6 c7:Addr}{t1 t2 t3 t4:Tok}
theorem zk (F:Fn K mg "show_end" mw ["end"] f fd)(fK:Fn K mg "piece_of" jU ["end"] f1 fd1):fm P w K mg base CX0 2 f fd ["end"] qu:=by
 have iV:fm P w K mg base CX0 1 f1 fd1 ["end"] qR:=mY fK
 refine F.F.ok sV (λvs H Q E h=>?_) (λcdv A outer s H vs Q E hr h=>?_)
 ·obtain⟨e,rfl,_⟩:=h;rfl
 ·obtain⟨e,rfl,h0,h1,k⟩:=h
  refine⟨_,(fb (fQ (i:=1) sV.nd rfl (Or.inl rfl) (fj iV (hr.mono (by decide)) rfl fK.m fK.F.kp fK.b .nil fM (eW (pv 0) eX)))
 (fe (fz (D6 (gw (qy (pv 0) (fo jt fc (pv 1)))) (t8 (rW (pv 1) (nK xQ))) (t8 (rW (pv 1) (nK xQ))))))),?_⟩
  refine⟨_,rfl,e,rfl,?_⟩
  have hl:=log2_small (n:=e/2) (by omega) (by omega)
  obtain⟨_,_,hz⟩:=rK (n:=e/2) (by omega) (by omega)
  have he:∀ x:Str,(Str.empty++x)=x:=Str.empty_append
  have hz2:∀ x:Str,x.length<=10->x.length<=sizeLine:=λx h=>bq h (by rw[aM];decide)
  have hle:=(iF (e:=e) h0 (by omega)).2.2
  refine⟨_,rfl,_,rfl,_,_,rfl,rfl,.inl ⟨by decide,by decide⟩,_,_,rfl,rfl,_,rfl,fY (λh=>?_) (λh=>?_)⟩
  ·have h:e=2*(e/2):=by simpa using h
   refine⟨_,rfl,txN (e/2),.inl ⟨_,rfl,hl,rfl⟩,hz2 _ (by rw[he];omega),?_⟩
   rw[he]
   have e1:txN (e/2)++Str.ofString "<" = txE e:=by unfold txE;rw[aA (by omega),Bx];rfl
   refine⟨hz2 _ (by rw[e1];omega),?_⟩
   rw[e1]
   exact⟨hz2 _ (by omega),k⟩
  ·have h:¬e=2*(e/2):=by simpa using h
   refine⟨_,rfl,txN (e/2),.inl ⟨_,rfl,hl,rfl⟩,hz2 _ (by rw[he];omega),?_⟩
   rw[he]
   have e1:txN (e/2)++Str.ofString ">" = txE e:=by unfold txE;rw[au (by omega),BH];rfl
   refine⟨hz2 _ (by rw[e1];omega),?_⟩
   rw[e1]
   exact⟨hz2 _ (by omega),k⟩
end
theorem DC {n:Nat}(h:n<=100000):n<=sizeLine:=bq h (by rw[aM];decide)
theorem JI (z:Str)(i:Nat)(c:Nat)(h:z.cps[i]? = some c):z.cps.toList[i]? = some c:=by simpa using h
theorem F9 {l:List Nat}{c:Nat}{r:List Nat}(h:l=c::r):atI l 0=some c:=by
 have:=jS (xs:=l) (j:=0) (v:=c) (by rw[h];rfl)
 exact this
theorem qg {l:List Nat}{c:Nat}(h:l.getLast?=some c):atI l (-1)=some c:=by
 obtain⟨r,e⟩:∃ r,l=r ++ [c]:=by
  obtain⟨ys,rfl⟩:=List.getLast?_eq_some_iff.mp h
  exact⟨ys,rfl⟩
 rw[e]
 exact Ah r c
theorem A4 {a b:Nat} :((⟨#[a]⟩:Str)=⟨#[b]⟩)↔a=b:=by
 constructor
 ·intro h;injection h with h;simpa using h
 ·intro h;rw[h]
section
variable {P:Program}{w:World}{K:PySem.W.Frag}{mg:Str->Option Value}{base:Heap}{f:Addr}{fd:FuncData}{c6:Addr}{t3 t4:Tok}
theorem uP (F:Fn K mg "read_number" i7 ["text"] f fd)(B:Bm mg)(C:Ct mg t3 t4)(XS:Xx K mg c6):fm P w K mg base (CXr P w base) 1 f fd ["text"] (As c6):=by
 refine F.F.okX ur (λvs H Q E h=>?_) (λcdv A outer s H vs Q E hr h=>?_)
 ·obtain⟨z,rfl,_⟩:=h;rfl
 ·obtain⟨z,rfl,hz,k1,k2⟩:=h
  have hzs:=DC hz
  have hsl:z.length=z.cps.toList.length:=str_len z
  refine⟨_,(fb (gf (PW.pt (uC (kT (pA (pv 0) (λ_=>rfl))) (rT (gw (wO (gd yz rfl B.len dZ (eW (pv 0) eX)) (jB (v:=.int 40) rfl C.rG ⟨_,rfl⟩))))))
 (fe (gN gu rfl rfl XS.kL.m XS.kL.q aG (eW (uG (i:=40) rfl C.rG ⟨_,rfl⟩ (by decide) (by decide)) eX))) fD)
 (fb (gf (kT (ni (gd (E1 rfl) rfl B.all boot_all (eW (nL (G9 (pv 0)) rfl nO (.name (by decide)) (λ_ _ _ _=>(ft (i:=0) nO.nd rfl (Or.inl rfl))) (λ_ _ _ _=>gZ) (λ_ _ _ _=>(t9 Cr (pv 0) (jB (v:=.str "0123456789") rfl C.Ge ⟨_,rfl⟩) (by with_unfolding_all rfl)))) eX))))
 (fe (gN gu rfl rfl XS.kL.m XS.kL.q aG (eW fw eX))) fD)
 (fb (gf (PW.pt (uD (gG tD (gr AU (pv 0) fc (λ_ _=>rfl)) fw (iS _)) (qY (gG zi (pv 0) fw (iS _)))))
 (fe (gN gu rfl rfl XS.kL.m XS.kL.q aG (eW fw eX))) fD)
 (fe (fz (kc Dh rfl B.int boot_int (eW (pv 0) eX))))))),?_⟩
  refine⟨_,rfl,_,⟨hzs,rfl⟩,fY (λh=>?_) (λh=>?_)⟩
  ·have h:z.length=0:=by simpa using h
   refine tW λ_=>⟨by show 1<=sizeLine;decide,λe he=>k2 ?_ H (fk.refl _) e he⟩
   unfold mW
   rw[aA (.inl (xt.mp h))]
  have h1:z.length≠0:=by simpa using h
  have hne:z.cps.toList≠ []:=λq=>h1 (xt.mpr q)
  refine⟨_,rfl,z,rfl,hzs,_,_,rfl,rfl,_,rfl,fY (λh=>?_) (λh=>?_)⟩
  ·have h:(z.length:Int)>40:=by simpa using h
   refine λ_=>⟨by show 1<=sizeLine;decide,λe he=>k2 ?_ H (fk.refl _) e he⟩
   unfold mW
   rw[aA (.inr (by omega))]
  have h2:¬(z.length:Int)>40:=by simpa using h
  have hc0:¬(z.cps.toList = []\/40<z.cps.toList.length):=λq=>by
   rcases q with q |q
   ·exact hne q
   ·omega
  have hsz:z.cps.size=z.cps.toList.length:=by simp
  refine⟨_,rfl,z,rfl,λp np=>zJ Hz z.cps.toList (λ_=>true) (λc=>V.bl (kM c)) np hsz (by rw[hsz,aM];omega) ?_ ?_⟩
  ·intro i x d H' hx hd sm P1 P0 p1 p0
   obtain⟨c,hc,rfl⟩:=hx
   have e0:c=d:=bx ((JI z i c hc).symm.trans hd)
   subst e0
   refine iY ?_
   refine⟨_,rfl,_,_,rfl,rfl,?_⟩
   have:=p1 rfl
   rw[<-HP]at this
   exact this
  rw[iH]
  have e2:(z.cps.toList.map λc=>V.bl (kM c))=(z.cps.toList.map kM).map V.bl:=by rw[br];rfl
  rw[e2]
  have s1:fk H (upd H p (.lst ((z.cps.toList.map kM).map V.bl))):=eY np
  have hp:=eZ (H:=H) (a:=p) (o:=.lst ((z.cps.toList.map kM).map V.bl))
  generalize upd H p _=H1 at s1 hp ⊢
  have lJ:(z.cps.toList.map kM).all id=z.cps.toList.all kM:=by rw[List.all_map];rfl
  refine⟨p,_,rfl,SqL.of hp,_,rfl,fY (λh=>?_) (λh=>?_)⟩
  ·rw[lJ]at h
   have h:z.cps.toList.all kM=false:=by simpa using h
   refine⟨by decide,λe he=>k2 ?_ H1 s1 e he⟩
   unfold mW
   rw[au hc0,aA h]
  rw[lJ]at h
  have h3:z.cps.toList.all kM=true:=by simpa using h
  have hc1:¬z.cps.toList.all kM=false:=by rw[h3];decide
  obtain⟨c0,r0,hcr⟩:∃ c r,z.cps.toList=c::r:=by
   cases q:z.cps.toList with
   |nil=>exact absurd q hne
   |cons c r=>exact⟨c,r,rfl⟩
  have hh:z.cps.toList.head?=some c0:=by rw[hcr];rfl
  have hz0:z=Str.ofString "0" ↔z.cps.toList = [48]:=by
   rw[xq]
   constructor
   ·intro q;rw[q,uV]
   ·intro q;rw[<-ye z,q]
  have fin:¬(z.cps.toList.head?=some 48/\z.cps.toList≠ [48])->∃ n:Int,mW z.cps.toList=some n/\PySem.intText? z=some n:=λq=>by
   refine⟨_,?_,PySem.intText_digits (x:=z) ?_ hne (by omega)⟩
   ·unfold mW
    rw[au hc0,au hc1,au q]
   ·intro c hc
    have:=dU.mp h3 c hc
    unfold kM at this
    exact eN this
  have ret:¬(z.cps.toList.head?=some 48/\z.cps.toList≠ [48])->∃ z' n,[V.str z] = [V.str z']/\PySem.intText? z'=some n/\z'.length<=640/\Q (.int n) H1:=λq=>by
   obtain⟨n,e1,e2⟩:=fin q
   exact⟨z,n,rfl,e2,by omega,k1 n e1 H1 s1⟩
  refine⟨_,rfl,z,0,c0,rfl,rfl,hzs,F9 hcr,rfl,_,rfl,fY (λh=>?_) (λh=>?_)⟩
  ·have h:(⟨#[c0]⟩:Str)=Str.ofString "0" :=by simpa using h
   have h:c0=48:=by
    rw[xq]at h
    exact A4.mp h
   refine⟨_,rfl,rfl,_,rfl,fY (λh'=>?_) (λh'=>?_)⟩
   ·have h':¬z=Str.ofString "0" :=by simpa using h'
    refine⟨by decide,λe he=>k2 ?_ H1 s1 e he⟩
    unfold mW
    rw[au hc0,au hc1,aA ⟨by rw[hh,h],λq=>h' (hz0.mpr q)⟩]
   ·have h':z=Str.ofString "0" :=by simpa using h'
    exact⟨_,rfl,ret λq=>q.2 (hz0.mp h')⟩
  ·have h:¬(⟨#[c0]⟩:Str)=Str.ofString "0" :=by simpa using h
   have h:¬c0=48:=λq=>h (by rw[xq,q];rfl)
   exact⟨_,rfl,ret λq=>h (by have:=q.1;rw[hh]at this;exact bx this)⟩
theorem zo (F:Fn K mg "read_end" jT ["text"] f fd)(XS:Xx K mg c6)(gF:Fn K mg "read_number" i7 ["text"] f1 fd1)
  (i8:fm P w K mg base (CXr P w base) 1 f1 fd1 ["text"] (As c6)):fm P w K mg base (CXr P w base) 2 f fd ["text"] (qQ c6):=by
 refine F.F.okX sX (λvs H Q E h=>?_) (λcdv A outer s H vs Q E hr h=>?_)
 ·obtain⟨z,rfl,_⟩:=h;rfl
 ·obtain⟨z,rfl,hz,k1,k2⟩:=h
  have hzs:=DC hz
  have hsl:z.length=z.cps.toList.length:=str_len z
  refine⟨_,(fb (fQ (i:=1) sX.nd rfl (Or.inl rfl) (fj i8 (hr.mono (by decide)) rfl gF.m gF.F.kp gF.b .nil fU (eW (kD Aw (pv 0) lX (lr (qZ nV fc))) eX)))
 (fb (gf (gG tD (gr AU (pv 0) (qZ nV fc) (λ_ _=>rfl)) fw (iS _))
 (fe (fz (fo jt fc (pv 1)))) fD)
 (fb (gf (gG tD (gr AU (pv 0) (qZ nV fc) (λ_ _=>rfl)) fw (iS _))
 (fe (fz (fo jd (fo jt fc (pv 1)) fc))) fD)
 (fe (gN gu rfl rfl XS.kL.m XS.kL.q aG (eW fw eX)))))),?_⟩
  refine⟨_,rfl,_,rfl,_,rfl,z,rfl,rfl,rfl,hzs,mkS z.cps.toList.dropLast,rfl,?_,?_,?_⟩
  ·rw[Bw,cj];omega
  ·intro n hn H1 s1
   rw[uV]at hn
   have hne:z.cps.toList≠ []:=λq=>by rw[q]at hn;simp[mW]at hn
   obtain⟨c,hc⟩:∃ c,z.cps.toList.getLast?=some c:=by
    cases q:z.cps.toList.getLast? with
    |none=>exact absurd (List.getLast?_eq_none_iff.mp q) hne
    |some c=>exact⟨c,rfl⟩
   have hb:lC z.cps.toList=if c=60 then some (2*n)else if c=62 then some (2*n+1)else none:=by
    unfold lC
    rw[hn,hc]
    show(if some c=some 60 then _ else if some c=some 62 then _ else _)=_
    simp only[Option.some.injEq]
   refine⟨_,rfl,_,rfl,z,-1,c,rfl,rfl,hzs,qg hc,rfl,_,rfl,fY (λh=>?_) (λh=>?_)⟩
   ·have h:(⟨#[c]⟩:Str)=Str.ofString "<" :=by simpa using h
    have h:c=60:=by rw[Bx]at h;exact A4.mp h
    refine⟨_,rfl,_,_,rfl,rfl,.inl ⟨by decide,by decide⟩,k1 _ (by rw[hb,aA h]) H1 s1⟩
   have h1:¬(⟨#[c]⟩:Str)=Str.ofString "<" :=by simpa using h
   have h1:¬c=60:=λq=>h1 (by rw[Bx,q];rfl)
   refine⟨_,rfl,_,rfl,z,-1,c,rfl,rfl,hzs,qg hc,rfl,_,rfl,fY (λh=>?_) (λh=>?_)⟩
   ·have h:(⟨#[c]⟩:Str)=Str.ofString ">" :=by simpa using h
    have h:c=62:=by rw[BH]at h;exact A4.mp h
    refine⟨_,rfl,_,_,rfl,rfl,.inl ⟨by decide,by decide⟩,_,_,rfl,rfl,k1 _ (by rw[hb,au h1,aA h]) H1 s1⟩
   have h2:¬(⟨#[c]⟩:Str)=Str.ofString ">" :=by simpa using h
   have h2:¬c=62:=λq=>h2 (by rw[BH,q];rfl)
   exact⟨by decide,λe he=>k2 (by rw[hb,au h1,au h2]) H1 s1 e he⟩
  ·intro hn H1 s1 e he
   rw[uV]at hn
   exact k2 (by unfold lC;rw[hn];rfl) H1 s1 e he
theorem tS (F:Fn K mg "words_behind" jj ["row","word","many"] f fd)(B:Bm mg)(XS:Xx K mg c6):fm P w K mg base (CXr P w base) 1 f fd ["row","word","many"] (Dz c6):=by
 refine F.F.okX oV (λvs H Q E h=>?_) (λcdv A outer s H vs Q E hr h=>?_)
 ·obtain⟨z,y,m,rfl,_⟩:=h;rfl
 ·obtain⟨z,y,m,rfl,hz,hy,m0,m1,k1,k2⟩:=h
  refine⟨_,(fb (fQ (i:=3) oV.nd rfl (Or.inl rfl) (lQ bO cw PySem.F.type_str_split uU (pv 0) (eW fw eX)))
 (fb (gf (PW.pt (uC (gG zi (gr gh (pv 3) fc (λ_ _=>rfl)) (pv 1) (iS _)) (rT (gw (Hd (gd iB rfl B.len dZ (eW (pv 3) eX)) (fo jd (pv 2) fc))))))
 (fe (gN gu rfl rfl XS.kL.m XS.kL.q aG (eW (t8 (nK (rW (pv 1) (nK (rW (pv 2) (nK xQ)))))) eX))) fD)
 (fe (fz (kD mS (pv 3) (lr fc) lX))))),?_⟩
  refine⟨_,rfl,rfl,z,_,rfl,rfl,by decide,hz,λp np=>?_⟩
  have ew:Txt.split z (Str.ofString " ")=wds z:=by rw[kJ];rfl
  rw[ew]
  have s1:fk H (upd H p (.lst ((wds z).map V.str))):=eY np
  have hp:=eZ (H:=H) (a:=p) (o:=.lst ((wds z).map V.str))
  generalize upd H p _=H1 at s1 hp ⊢
  obtain⟨c,r,hcr⟩:∃ c r,wds z=c::r:=by
   cases q:wds z with
   |nil=>exact absurd q (qN z 32)
   |cons c r=>exact⟨c,r,rfl⟩
  have hh:(wds z).head?=some c:=by rw[hcr];rfl
  have ht:((wds z).map V.str)[0]? = some (.str c):=by rw[hcr];rfl
  have JK:¬((wds z).head?=some y/\((wds z).length:Int)=m+1)->(tFC (Str.ofString "a row is to be ") (tFV (Cf 1) (tFC (Str.ofString " and ") (tFV (Cf 2) (tFC (Str.ofString " more, with one blank between") tFN))))) [some (.str z),some (.str y),some (.int m),some (.ref p)] H1 Str.empty λz' H2=>z'.length<=sizeLine/\1<=sizeLine/\∀ e,H2 e=none->E (.ref c6) (some e) H2:=λq=>by
   have hm:(Str.ofString (toString m)).length<=2:=by
    have:∀ n:Nat,n<100->(Str.ofString (toString ((n:Nat):Int))).length<=2:=by decide +kernel
    have:=this m.toNat (by omega)
    rw[show((m.toNat:Nat):Int)=m by omega]at this
    exact this
   have e1:(Str.ofString "a row is to be ").length=15:=by decide +kernel
   have e2:(Str.ofString " and ").length=5:=by decide +kernel
   have e3:(Str.ofString " more, with one blank between").length=29:=by decide +kernel
   have lim:∀ n,n<=1000->n<=sizeLine:=λn h=>bq h (by rw[aM];decide)
   refine⟨lim _ (by rw[aB,e1];show 0+15<=_;omega),_,rfl,y,.inr ⟨rfl,lim _ (by omega)⟩,lim _ ?_,lim _ ?_,_,rfl,_,.inl ⟨m,rfl,log2_small (by omega) (by omega),rfl⟩,lim _ ?_,lim _ ?_,lim _ ?_,by decide,λe he=>k2 q H1 s1 e he⟩
   all_goals
    simp only[aB,e1,e2,e3]
    rw[show Str.empty.length=0 from rfl]
    omega
  refine⟨_,rfl,p,_,0,_,rfl,rfl,SqL.of hp,jS (j:=0) ht,_,rfl,rfl,_,rfl,fY (λh=>?_) (λh=>?_)⟩
  ·have h:¬c=y:=by simpa using h
   exact tW (JK λq=>h (by have:=q.1;rw[hh]at this;exact bx this))
  have h1:c=y:=by simpa using h
  refine⟨_,rfl,p,_,rfl,.inl (SqL.of hp),_,rfl,_,_,rfl,rfl,_,_,rfl,rfl,_,rfl,fY (λh=>?_) (λh=>?_)⟩
  ·have h:¬(((wds z).map V.str).length:Int)=m+1:=by simpa using h
   rw[aa]at h
   exact JK λq=>h q.2
  have h2:(((wds z).map V.str).length:Int)=m+1:=by simpa using h
  rw[aa]at h2
  refine⟨_,rfl,_,rfl,p,_,rfl,SqL.of hp,λq nq=>?_⟩
  rw[EY _ (by decide)]
  refine k1 (by rw[hh,h1]) h2 q _ (s1.trans (eY nq)) (by cases q0:H q with
   |none=>rfl
   |some o=>rw[s1 _ _ q0]at nq;cases nq) ?_
  rw[eZ,<-dY,show((1:Int)).toNat=1 from rfl,List.drop_one]
end
theorem wN {K:PySem.W.Frag}{H:Hp} :∀ {js:List (Int×Int)}{vs:List V},Das K H (js.map dP) vs->Ps K H js vs
 |[],vs,h=>by rw[List.map_nil]at h;exact gQ.mpr (gQ.mp h)
 |j::js,vs,h=>by
  rw[bt]at h
  obtain⟨v,r,rfl,h1,h2⟩:=fX.mp h
  refine fX.mpr ⟨v,r,rfl,?_,wN h2⟩
  unfold dP at h1 ⊢
  obtain⟨a,us,rfl,ht,q⟩:=gC.mp h1
  obtain⟨v1,r',rfl,q1,q⟩:=fX.mp q
  obtain⟨v2,r',rfl,q2,q⟩:=fX.mp q
  exact gC.mpr ⟨a,_,rfl,ht,fX.mpr ⟨_,_,rfl,gD.mpr (gD.mp q1),fX.mpr ⟨_,_,rfl,gD.mpr (gD.mp q2),gQ.mpr (gQ.mp q)⟩⟩⟩
noncomputable def txP (m:Int):Str:=Str.ofString "pieces " ++ txN m
noncomputable def txJ (p:Int×Int):Str:=Str.ofString "joint " ++ txE p.1++Str.ofString " " ++ txE p.2
noncomputable def txR (l:Ln):List Str:=txP l.1::l.2.map txJ
noncomputable def txL (l:Ln):Str:=Str.join (chS 10) (txR l)
theorem Cq:Str.ofString "pieces " = Str.ofString "pieces" ++ chS 32:=by decide +kernel
theorem Ez:Str.ofString "joint " = Str.ofString "joint" ++ chS 32:=by decide +kernel
theorem y4:∀ c∈(Str.ofString "pieces").cps.toList,97<=c:=by decide +kernel
theorem AS:∀ c∈(Str.ofString "joint").cps.toList,97<=c:=by decide +kernel
theorem yM {n:Int}(h0:0<=n)(h1:n<41):∀ c∈(txN n).cps.toList,48<=c:=λc hc=>by
 have:=dU.mp (rK h0 h1).2.1 c hc
 unfold kM at this
 exact(eN this).1
theorem Im {m:Int}(h0:0<=m)(h1:m<41):wds (txP m) = [Str.ofString "pieces",txN m]:=by
 unfold wds txP
 rw[Cq]
 exact nZ (ws:=[Str.ofString "pieces",txN m]) (by simp) λw hw=>by
  rcases aI.mp hw with rfl |hw
  ·exact λz=>by have:=y4 _ z;omega
  ·have hw:w=txN m:=by simpa using hw
   rw[hw]
   exact λz=>by have:=yM h0 h1 _ z;omega
theorem Io {p:Int×Int}(h:(0<=p.1/\p.1<82)/\(0<=p.2/\p.2<82)):wds (txJ p) = [Str.ofString "joint",txE p.1,txE p.2]:=by
 have e:txJ p=Str.join (chS 32) [Str.ofString "joint",txE p.1,txE p.2]:=by
  unfold txJ
  rw[Ez,kJ,hV,hV,TL.join_one]
  simp only[Str.append_assoc]
 unfold wds
 rw[e]
 refine nZ (by simp) λw hw=>?_
 simp only[aI,bP,dq]at hw
 rcases hw with rfl |rfl |rfl
 ·exact λz=>by have:=AS _ z;omega
 ·exact λz=>by have:=(iF h.1.1 h.1.2).2.1 _ z;omega
 ·exact λz=>by have:=(iF h.2.1 h.2.2).2.1 _ z;omega
theorem EI {m:Int}(h0:0<=m)(h1:m<41):(10:Nat)∉(txP m).cps.toList/\(txP m).length<=9:=by
 unfold txP
 rw[iA,aB]
 have e:∀ c∈(Str.ofString "pieces ").cps.toList,32<=c:=by decide +kernel
 have e2:(Str.ofString "pieces ").length=7:=by decide +kernel
 have:=(rK h0 h1).2.2
 refine⟨λz=>?_,by omega⟩
 rcases aJ.mp z with z |z
 ·have:=e _ z;omega
 ·have:=yM h0 h1 _ z;omega
theorem HN {p:Int×Int}(h:(0<=p.1/\p.1<82)/\(0<=p.2/\p.2<82)):(10:Nat)∉(txJ p).cps.toList/\(txJ p).length<=13:=by
 unfold txJ
 simp only[iA,aB]
 have e:∀ c∈(Str.ofString "joint ").cps.toList,32<=c:=by decide +kernel
 have e2:(Str.ofString "joint ").length=6:=by decide +kernel
 have e3:∀ c∈(Str.ofString " ").cps.toList,32<=c:=by decide +kernel
 have e4:(Str.ofString " ").length=1:=by decide +kernel
 obtain⟨_,f1,l1⟩:=iF h.1.1 h.1.2
 obtain⟨_,f2,l2⟩:=iF h.2.1 h.2.2
 refine⟨λz=>?_,by omega⟩
 rcases aJ.mp z with z |z
 ·rcases aJ.mp z with z |z
  ·rcases aJ.mp z with z |z
   ·have:=e _ z;omega
   ·have:=f1 _ z;omega
  ·have:=e3 _ z;omega
 ·have:=f2 _ z;omega
noncomputable def small (l:Ln):Prop:=0<=l.1/\l.1<41/\l.2.length<=81/\∀ p∈l.2,(0<=p.1/\p.1<82)/\(0<=p.2/\p.2<82)
theorem fW.small {l:Ln}(h:fW l):small l:=by
 obtain⟨h1,h2,h3,h4,h5⟩:=h
 refine⟨by omega,by omega,by omega,λp hp=>?_⟩
 obtain⟨a,b,_⟩:=h4 p hp
 exact⟨⟨a.1,by omega⟩,b.1,by omega⟩
theorem yL {l:Ln}(h:small l):∀ w∈txR l,(10:Nat)∉w.cps.toList/\w.length<=13:=λw hw=>by
 obtain⟨h1,h2,h3,h4⟩:=h
 rcases aI.mp hw with rfl |hw
 ·have:=EI h1 h2;exact⟨this.1,by omega⟩
 ·obtain⟨p,hp,rfl⟩:=aH.mp hw
  exact HN (h4 p hp)
theorem vg:∀ {ws:List Str},(∀ w∈ws,w.length<=13)->(Str.join (chS 10) ws).length<=14*ws.length
 |[],_=>aP _
 |[a],h=>by
  have:=h a az
  show a.length<=_
  have:[a].length=1:=rfl
  omega
 |a::b::r,h=>by
  have h1:=h a az
  have h2:=vg (ws:=b::r) λw hw=>h w (ar _ hw)
  rw[hV,aB,aB,aQ]
  show a.length+1+_<=_
  omega
theorem rL {l:Ln}(h:small l):Txt.split (txL l) (chS 10)=txR l/\(txL l).length<=2000:=by
 have f:=yL h
 refine⟨nZ (by simp[txR]) λw hw=>(f w hw).1,?_⟩
 have:=vg λw hw=>(f w hw).2
 have e:(txR l).length=l.2.length+1:=by simp[txR]
 have:=h.2.2.1
 unfold txL
 omega
noncomputable def rdJ (z:Str):Option (Int×Int):=match wds z with
 |[a,b,c]=>if a=Str.ofString "joint" then(lC b.cps.toList).bind λx=>(lC c.cps.toList).map λy=>(x,y)else none
 |_=>none
noncomputable def Gh (C:Addr):Sp:=λvs H Q E=>∃ z:Str,vs = [.str z]/\z.length<=100000/\(∀ p,rdJ z=some p->∀ (q:Addr) H',fk H H'->H q=none->H' q=some (.tup [.int p.1,.int p.2])->Q (.ref q) H')/\(rdJ z=none->∀ H',fk H H'->∀ e,H' e=none->E (.ref C) (some e) H')
theorem IK {p:Int×Int}(h:(0<=p.1/\p.1<82)/\(0<=p.2/\p.2<82)):rdJ (txJ p)=some p:=by
 unfold rdJ
 rw[Io h]
 show(if Str.ofString "joint" = Str.ofString "joint" then _ else _)=_
 rw[aA rfl,(iF h.1.1 h.1.2).1,(iF h.2.1 h.2.2).1]
 rfl
noncomputable abbrev lV:Stmt:=top 60
theorem ng:fC ["row","low","high"] ["row"] (fh lV):=⟨rfl,rfl,rfl,by decide +kernel,rfl,by decide +kernel,by decide +kernel⟩
section
variable {P:Program}{w:World}{K:PySem.W.Frag}{mg:Str->Option Value}{base:Heap}{f:Addr}{fd:FuncData}{c6 c1:Addr}{t3 t4:Tok}
theorem wb (F:Fn K mg "read_joint" lV ["row"] f fd)(fS:Fn K mg "read_end" jT ["text"] f1 fd1)(gp:Fn K mg "words_behind" jj ["row","word","many"] f2 fd2)
  (gW:fm P w K mg base (CXr P w base) 2 f1 fd1 ["text"] (qQ c6)) (iI:fm P w K mg base (CXr P w base) 1 f2 fd2 ["row","word","many"] (Dz c6)):fm P w K mg base (CXr P w base) 3 f fd ["row"] (Gh c6):=by
 refine F.F.okX ng (λvs H Q E h=>?_) (λcdv A outer s H vs Q E hr h=>?_)
 ·obtain⟨z,rfl,_⟩:=h;rfl
 ·obtain⟨z,rfl,hz,k1,k2⟩:=h
  have hwl:∀ x∈wds z,x.length<=100000:=λx hx=>by
   have h:=uI (sep:=chS 32) hx
   unfold wds at h
   rw[cE]at h
   omega
  refine⟨_,(fb (mD (fj iI (hr.mono (by decide)) rfl gp.m gp.F.kp gp.b .nil fU (eW (pv 0) (eW fw (eW fc eX)))) (DV (n:=2) rfl (fH (ft (i:=1) ng.nd rfl (Or.inl rfl)) (fH (ft (i:=2) ng.nd rfl (Or.inl rfl)) g9))))
 (fe (fz (iE (eW (fj gW (hr.mono (by decide)) rfl fS.m fS.F.kp fS.b .nil fU (eW (pv 1) eX)) (eW (fj gW (hr.mono (by decide)) rfl fS.m fS.F.kp fS.b .nil fU (eW (pv 2) eX)) eX)))))),?_⟩
  refine⟨_,rfl,z,_,2,rfl,hz,by decide,by decide,by decide,λhh hl p H1 s1 np hp=>?_,λhn H1 s1 e he=>k2 ?_ H1 s1 e he⟩
  ·obtain⟨x,y,hw⟩:∃ x y,wds z = [Str.ofString "joint",x,y]:=by
    match q:wds z with
    |[]=>rw[q]at hh;cases hh
    |[a]=>rw[q]at hl;simp at hl
    |[a,b]=>rw[q]at hl;simp at hl
    |[a,b,c]=>rw[q]at hh;cases hh;exact⟨b,c,rfl⟩
    |a::b::c::d::r=>rw[q]at hl;simp at hl;omega
   rw[hw]at hp hwl
   have hJ:rdJ z=(lC x.cps.toList).bind λa=>(lC y.cps.toList).map λb=>(a,b):=by
    unfold rdJ
    rw[hw]
    show(if Str.ofString "joint" = Str.ofString "joint" then _ else _)=_
    rw[aA rfl]
   refine⟨p,_,rfl,SqL.of hp,rfl,_,_,rfl,_,_,rfl,rfl,?_⟩
   refine⟨_,rfl,x,rfl,hwl x (by simp),λa ha H2 s2=>?_,λha H2 s2 e he=>k2 (by rw[hJ,ha];rfl) H2 (s1.trans s2) e he⟩
   refine⟨_,rfl,y,rfl,hwl y (by simp),λb hb H3 s3=>?_,λhb H3 s3 e he=>k2 (by rw[hJ,ha,hb];rfl) H3 (s1.trans (s2.trans s3)) e he⟩
   refine⟨by show 2<=sizeLine;decide,λq nq=>?_⟩
   exact k1 (a,b) (by rw[hJ,ha,hb];rfl) q _ (s1.trans (s2.trans (s3.trans (eY nq)))) (nM (s1.trans (s2.trans s3)) nq) eZ
  ·unfold rdJ
   match q:wds z with
   |[]=>rfl
   |[a]=>rfl
   |[a,b]=>rfl
   |[a,b,c]=>
    show(if a=Str.ofString "joint" then _ else _)=_
    rw[au]
    intro ha
    exact hn (by rw[q,ha];exact⟨rfl,rfl⟩)
   |a::b::c::d::r=>rfl
end
theorem jf {n:Nat}(h:n<=1000):n<sizeLine:=dh h (by decide)
theorem HQ {p d m:Int}(h0:0<=p)(h1:p<m)(d0:1<=d)(d1:d<m):(p+d)%m≠p/\0<=(p+d)%m/\(p+d)%m<m:=by
 refine⟨?_,cb _ (by omega),bM _ (by omega)⟩
 by_cases c:p+d<m
 ·rw[Int.emod_eq_of_lt (by omega) c];omega
 ·have e:p+d=(p+d-m)+m:=by omega
  rw[e,Int.add_emod_right,Int.emod_eq_of_lt (by omega) (by omega)];omega
theorem Er {m:Int}{js js':List (Int×Int)}{a b:Int}(L:fW (m,js))(hne:a/2≠b/2)(a0:0<=a)(a1:a<2*m)(b0:0<=b)(b1:b<2*m)(hn:(min a b,max a b)∉js)(hl:js.length<80)
  (pm:js'.Perm ((min a b,max a b)::js)):fW (m,js'):=by
 obtain⟨h1,h2,h3,h4,h5⟩:=L
 refine⟨h1,h2,by rw[pm.length_eq,aQ];exact hl,λp hp=>?_,pm.nodup_iff.mpr (cA.mpr ⟨hn,h5⟩)⟩
 rcases aI.mp (pm.mem_iff.mp hp)with rfl |z
 ·unfold okJ
  dsimp only
  rcases Int.le_total a b with c |c
  ·rw[Int.min_eq_left c,Int.max_eq_right c];exact⟨⟨a0,a1⟩,⟨b0,b1⟩,c,hne⟩
  ·rw[Int.min_eq_right c,Int.max_eq_left c];exact⟨⟨b0,b1⟩,⟨a0,a1⟩,c,bX hne⟩
 ·exact h4 p z
noncomputable def Bf (K:PySem.W.Frag):Sp:=λvs H Q _=>∃ (a:Addr) (ns:List Int) (st mo up:Int),vs = [.ref a,.int st,.int mo,.int up]/\SqL K H a (ns.map V.int)/\0<=st/\1<=mo/\mo<=40/\0<=up/\up<=80/\∀ (p t:Addr) (us:List V) (l:Ln) (H':Hp),fk H H'->H p=none->H t=none->H' p=some (.tup [.int l.1,.ref t])->H' t=some (.lst us)->Ps K H' l.2 us->fW l->l.1<=mo->(l.2.length:Int)<=up->Q (.ref p) H'
noncomputable abbrev oh:Stmt:=top 88
theorem gY:fC ["_law_script","_law_start","_law_most","_law_upto","_law_head","_law_many","_law_joints","_law_k","_law_number","_law_one","_law_far","_law_other_here","_law_joint"] ["_law_script","_law_start","_law_most","_law_upto"] (fh oh):=⟨rfl,rfl,rfl,by decide +kernel,rfl,by decide +kernel,by decide +kernel⟩
section
variable {P:Program}{w:World}{K:PySem.W.Frag}{mg:Str->Option Value}{base:Heap}{f:Addr}{fd:FuncData}
theorem zt (F:Fn K mg "_law_line" oh ["_law_script","_law_start","_law_most","_law_upto"] f fd)(fV:Fn K mg "_law_mix" me ["_law_cell","_law_k"] f1 fd1)(fZ:Fn K mg "_law_cell_at" jL ["_law_script","_law_k"] f2 fd2)
  (B:Bl mg):fm P w K mg base CX0 2 f fd ["_law_script","_law_start","_law_most","_law_upto"] (Bf K):=by
 have ke:fm P w K mg base CX0 1 f1 fd1 ["_law_cell","_law_k"] xx:=qz fV B
 have lx:fm P w K mg base CX0 1 f2 fd2 ["_law_script","_law_k"] (xB K):=pD fZ B
 refine F.F.ok gY (λvs H Q E h=>?_) (λcdv A outer s H vs Q E hr h=>?_)
 ·obtain⟨a,ns,st,mo,up,rfl,_⟩:=h;rfl
 ·obtain⟨a,ns,st,mo,up,rfl,hS,st0,mo0,mo1,up0,up1,k⟩:=h
  refine⟨_,(fb (fQ (i:=4) gY.nd rfl (Or.inl rfl) (fj ke (hr.mono (by decide)) rfl fV.m fV.F.kp fV.b .nil fM (eW (fj lx (hr.mono (by decide)) rfl fZ.m fZ.F.kp fZ.b .nil fM (eW (pv 0) (eW (pv 1) eX))) (eW fc eX))))
 (fb (fQ (i:=5) gY.nd rfl (Or.inl rfl) (fo jd fc (fo gM (pv 4) (pv 2))))
 (fb (fQ (i:=6) gY.nd rfl (Or.inl rfl) (gB eX))
 (fb (jq bH rfl (p6 rfl B.range (eW (fo gM (fo gH (pv 4) fc) (fo jd (pv 3) fc)) eX)) (ft (i:=7) gY.nd rfl (Or.inl rfl))
 (fb (fQ (i:=8) gY.nd rfl (Or.inl rfl) (fj ke (hr.mono (by decide)) rfl fV.m fV.F.kp fV.b .nil fM (eW (fj lx (hr.mono (by decide)) rfl fZ.m fZ.F.kp fZ.b .nil fM (eW (pv 0) (eW (fo jd (fo jd (pv 1) fc) (fo gH (pv 7) fc)) eX))) (eW (fo gM (pv 7) fc) eX))))
 (fb (fQ (i:=9) gY.nd rfl (Or.inl rfl) (fo gM (pv 8) (fo jt fc (pv 5))))
 (fb (fQ (i:=8) gY.nd rfl (Or.inl rfl) (fo gH (pv 8) (fo jt fc (pv 5))))
 (fe (gf (gw (wO (pv 5) fc))
 (fb (fQ (i:=10) gY.nd rfl (Or.inl rfl) (gr gh (gB (eW fc (eW (fo gM (fo gH (pv 8) fc) (fo xU (pv 5) fc)) eX))) (fo gM (fo gH (pv 8) fc) fc) (λ_ _=>rfl)))
 (fb (fQ (i:=11) gY.nd rfl (Or.inl rfl) (fo jd (fo jt fc (fo gM (fo jd (fo jd (fo gH (pv 9) fc) fc) (pv 10)) (pv 5))) (fo gM (pv 8) fc)))
 (fb (fQ (i:=12) gY.nd rfl (Or.inl rfl) (iE (eW (gd (Dc rfl) rfl B.min boot_min (eW (pv 9) (eW (pv 11) eX))) (eW (gd (Df rfl) rfl B.max boot_max (eW (pv 9) (eW (pv 11) eX))) eX))))
 (fe (gf (gG (mf hr.units) (pv 12) (pv 6) (by with_unfolding_all rfl))
 (fe (kC (lQ bJ PySem.F.slot_list_insert PySem.F.type_list_insert CA (pv 6) (eW (fo gM (fo gH (pv 8) fc) (fo jd (gd iB rfl B.len dZ (eW (pv 6) eX)) fc)) (eW (pv 12) eX))))) fD))))) fD))))))
 (fe (fz (iE (eW (pv 5) (eW (pv 6) eX))))))))),?_⟩
  refine⟨_,rfl,_,rfl,a,ns,st,rfl,hS,st0,λcell=>?_⟩
  refine⟨cell,0,rfl,by decide,by decide,λhd hd0 _=>?_⟩
  refine⟨_,rfl,_,rfl,_,_,rfl,rfl,(by show(0:Int)<mo;omega),_,_,rfl,rfl,?_⟩
  have q0:0<=hd%mo:=cb _ (by omega)
  have q1:hd%mo<mo:=bM _ (by omega)
  dsimp only
  generalize hm:1+hd%mo=m
  have m1:1<=m:=by omega
  have m2:m<=40:=by omega
  refine⟨aP _,λt nt=>?_⟩
  refine⟨_,rfl,_,_,rfl,rfl,⟨by decide,by decide⟩,_,rfl,_,_,rfl,rfl,_,_,rfl,rfl,(by show(0:Int)<up+1;omega),?_⟩
  have u0:0<=hd/64%(up+1):=cb _ (by omega)
  have u1:hd/64%(up+1)<up+1:=bM _ (by omega)
  refine⟨_,rfl,by show -(2 ^ 62)<=hd/64%(up+1);omega,by show hd/64%(up+1)<2 ^ 62;omega,vC (λi σ H3=>∃ (vs:List V) (js:List (Int×Int)) (x7 x8 x9 x10 x11 x12:Option V),σ = [some (.ref a),some (.int st),some (.int mo),some (.int up),some (.int hd),some (.int m),some (.ref t),x7,x8,x9,x10,x11,x12]/\fk H H3/\H3 t=some (.lst vs)/\Ps K H3 js vs/\js.length<=i/\fW (m,js))
   ⟨[],[],none,none,none,none,none,none,rfl,eY nt,eZ,gQ.mpr rfl,ai _,⟨m1,m2,aP _,λp hp=>(nomatch hp),List.nodup_nil⟩⟩ ?_ ?_⟩
  ·rintro i σ H3 N R Bq kN kR hi ⟨vs,js,x7,x8,x9,x10,x11,x12,rfl,S3,ht3,D,jl,L⟩
   have i0:(0:Int)+(i:Nat)=(i:Int):=by omega
   rw[i0]
   have hi':(i:Int)<80:=by
    have h:i<(hd/64%(up+1)).toNat:=hi
    omega
   refine⟨_,rfl,_,rfl,_,_,rfl,rfl,_,rfl,_,_,rfl,rfl,⟨by decide,by decide⟩,_,_,rfl,rfl,a,ns,_,rfl,S3.seq hS,(by show(0:Int)<=st+1+(i:Int)/8;omega),λc5=>?_⟩
   refine⟨_,rfl,_,_,rfl,rfl,(by show(0:Int)<_;decide),c5,_,rfl,(by show(0:Int)<=(i:Int)%8;omega),(by show(i:Int)%8<=1000;omega),λn5 n50 n51=>?_⟩
   refine⟨_,rfl,_,rfl,_,_,rfl,rfl,.inl ⟨by decide,by decide⟩,_,_,rfl,rfl,(by show(0:Int)<2*m;omega),?_⟩
   refine⟨_,rfl,_,rfl,_,_,rfl,rfl,.inl ⟨by decide,by decide⟩,_,_,rfl,rfl,⟨by show(0:Int)<2*m;omega,by show 2*m<1073741824;omega⟩,?_⟩
   have o0:0<=n5%(2*m):=cb _ (by omega)
   have o1:n5%(2*m)<2*m:=bM _ (by omega)
   dsimp only
   generalize n5%(2*m)=one at o0 o1
   generalize n5/(2*m)=r
   refine⟨_,rfl,_,_,rfl,rfl,_,rfl,fY (λh=>?_) (λh=>?_)⟩
   ·have hm1:1<m:=by simpa using h
    have f0:0<=r/4%(m-1):=cb _ (by omega)
    have f1:r/4%(m-1)<m-1:=bM _ (by omega)
    refine⟨_,rfl,_,_,rfl,rfl,⟨by decide,by decide⟩,_,rfl,_,_,rfl,rfl,_,_,rfl,rfl,(by show(0:Int)<m-1;omega),by show 2<=sizeLine;decide,λq3 nq3=>?_⟩
    dsimp only
    generalize r/4%(m-1)=fa at f0 f1
    obtain⟨far,Sn,hat⟩:∃ far:Int,(0<=far/\far<m-1)/\atI [V.int 0,V.int fa] (r/2%2)=some (.int far):=by
     have:r/2%2=0\/r/2%2=1:=by omega
     rcases this with e |e
     ·exact⟨0,by omega,by rw[e];rfl⟩
     ·exact⟨fa,⟨f0,f1⟩,by rw[e];rfl⟩
    refine⟨_,rfl,_,_,rfl,rfl,⟨by decide,by decide⟩,_,_,rfl,rfl,(by show(0:Int)<_;decide),q3,_,_,_,rfl,rfl,SqL.of eZ,hat,?_⟩
    refine⟨_,rfl,_,_,rfl,rfl,⟨by decide,by decide⟩,_,_,rfl,rfl,_,rfl,_,_,rfl,rfl,_,rfl,_,_,rfl,rfl,(by show(0:Int)<m;omega),_,_,rfl,rfl,.inl ⟨by decide,by decide⟩,_,rfl,_,_,rfl,rfl,(by show(0:Int)<_;decide),_,_,rfl,rfl,?_⟩
    dsimp only
    obtain⟨g1,g2,g3⟩:=HQ (p:=one/2) (d:=1+far) (m:=m) (by omega) (by omega) (by omega) (by omega)
    rw[show one/2+(1+far)=one/2+1+far by omega]at g1 g2 g3
    generalize (one/2+1+far)%m=pc at g1 g2 g3
    have b0:0<=2*pc+r%2:=by omega
    have b1:2*pc+r%2<2*m:=by omega
    have hne:one/2≠(2*pc+r%2)/2:=by omega
    generalize 2*pc+r%2=ot at b0 b1 hne
    refine⟨_,rfl,_,rfl,_,_,rfl,_,rfl,_,rfl,_,_,rfl,by show 2<=sizeLine;decide,λp1 n1=>?_⟩
    rw[Hm,Ho]
    have S4:=(eY nq3).trans (eY (o:=.tup [.int (min one ot),.int (max one ot)]) n1)
    have ht4:=S4 _ _ ht3
    have D4:=D.same S4
    have hp1:=eZ (H:=upd H3 q3 (.lst [.int 0,.int fa])) (a:=p1) (o:=.tup [.int (min one ot),.int (max one ot)])
    generalize upd (upd H3 q3 _) p1 _=H4 at S4 ht4 D4 hp1 ⊢
    refine⟨_,rfl,_,rfl,_,_,D4.da ht4,gC.mpr ⟨p1,_,rfl,SqT.of hp1,Dgs.two (gD.mpr rfl) (gD.mpr rfl)⟩,Hk js,IZ (_,_),_,rfl,?_⟩
    refine fY (λhni=>?_) (λ_=>?_)
    ·have OL:(min one ot,max one ot)∉js:=λz=>by
      have e:=JL js (min one ot,max one ot)
      unfold dP at e
      dsimp only at e
      unfold dP at hni
      rw[e]at hni
      simp[z]at hni
     have vl:=D4.len
     have w0:0<=r/64%((vs.length:Int)+1):=cb _ (by omega)
     have w1:r/64%((vs.length:Int)+1)<(vs.length:Int)+1:=bM _ (by omega)
     refine⟨_,rfl,.inl ⟨rfl,_,SqL.of ht4⟩,_,rfl,_,_,rfl,rfl,⟨by decide,by decide⟩,_,rfl,t,_,rfl,.inl (SqL.of ht4),_,_,rfl,rfl,_,_,rfl,rfl,(by show(0:Int)<(vs.length:Int)+1;omega),_,rfl,t,vs,_,_,rfl,rfl,ht4,w0,(by show r/64%((vs.length:Int)+1)<=(vs.length:Int);omega),jf (by omega),?_⟩
     have pm:=DW js (r/64%((vs.length:Int)+1)).toNat (min one ot,max one ot)
     refine kN _ _ ⟨_,js.take (r/64%((vs.length:Int)+1)).toNat++(min one ot,max one ot)::js.drop (r/64%((vs.length:Int)+1)).toNat,_,_,_,_,_,_,rfl,fk.upd (S3.trans S4) nt,eZ,?_,?_,Er L hne o0 o1 b0 b1 OL (by omega) pm⟩
     ·exact Ps.ins (x:=(min one ot,max one ot)) _ D4 ht4 hp1
     ·rw[pm.length_eq,aQ];omega
    ·exact kN _ _ ⟨vs,js,_,_,_,_,_,_,rfl,S3.trans S4,ht4,D4,by omega,L⟩
   ·exact kN _ _ ⟨vs,js,_,_,_,_,_,_,rfl,S3,ht3,D,by omega,L⟩
  ·rintro σ H3 ⟨vs,js,x7,x8,x9,x10,x11,x12,rfl,S3,ht3,D,jl,L⟩
   refine⟨_,rfl,_,rfl,by show 2<=sizeLine;decide,λp np=>?_⟩
   have S4:=eY (o:=.tup [.int m,.ref t]) np
   exact k p t vs (m,js) _ (S3.trans S4) (nM S3 np) nt eZ (S4 _ _ ht3) (D.same S4) L (by show m<=mo;omega) (by show(js.length:Int)<=up;have:js.length<=(hd/64%(up+1)).toNat:=jl;omega)
end
noncomputable def yU (K:PySem.W.Frag):Sp:=λvs H Q _=>∃ (v:V) (l:Ln),vs = [v]/\Da K H (dL l) v/\small l/\∀ H',fk H H'->Q (.str (txL l)) H'
noncomputable def o8:Sp:=λvs H Q _=>∃ e:Int,vs = [.int e]/\0<=e/\e<82/\∀ H',fk H H'->Q (.str (txE e)) H'
noncomputable abbrev ig:Stmt:=top 93
theorem tR:fC ["_law_end"] ["_law_end"] (fh ig):=⟨rfl,rfl,rfl,by decide +kernel,rfl,by decide +kernel,by decide +kernel⟩
noncomputable abbrev jP:Stmt:=top 96
theorem iG:fC ["_law_line_here","_law_text","_law_one","_law_other_here"] ["_law_line_here"] (fh jP):=⟨rfl,rfl,rfl,by decide +kernel,rfl,by decide +kernel,by decide +kernel⟩
section
variable {P:Program}{w:World}{K:PySem.W.Frag}{mg:Str->Option Value}{base:Heap}{f:Addr}{fd:FuncData}
theorem jQ (F:Fn K mg "_law_end_text" ig ["_law_end"] f fd)(B:Bm mg):fm P w K mg base CX0 1 f fd ["_law_end"] o8:=by
 refine F.F.ok tR (λvs H Q E h=>?_) (λcdv A outer s H vs Q E hr h=>?_)
 ·obtain⟨e,rfl,_⟩:=h;rfl
 ·obtain⟨e,rfl,h0,h1,k⟩:=h
  refine⟨_,(fe (fz (fo gO (kc rB rfl B.str boot_str (eW (fo gH (pv 0) fc) eX)) (gr gh (gB (eW fw (eW fw eX))) (fo gM (pv 0) fc) (λ_ _=>rfl))))),?_⟩
  refine⟨_,rfl,_,_,rfl,rfl,⟨by decide,by decide⟩,e/2,rfl,log2_small (by omega) (by omega),by show 2<=sizeLine;decide,λq nq=>?_⟩
  have lim:∀ n,n<=1000->n<=sizeLine:=λn h=>bq h (by rw[aM];decide)
  have l1:=(rK (n:=e/2) (by omega) (by omega)).2.2
  have kk:=k _ (eY (o:=.lst [.str "<",.str ">"]) nq)
  refine⟨_,rfl,_,_,rfl,rfl,(by show(0:Int)<_;decide),?_⟩
  have:e%2=0\/e%2=1:=by omega
  rcases this with c |c
  ·have ec:txE e=txN (e/2)++Str.ofString "<" :=by unfold txE;rw[aA c,Bx];rfl
   rw[ec]at kk
   refine⟨q,_,_,.str "<",rfl,rfl,SqL.of eZ,by show atI _ (e%2)=_;rw[c];rfl,txN (e/2),_,rfl,rfl,lim _ ?_,kk⟩
   show(txN (e/2)).length+1<=_
   omega
  ·have ec:txE e=txN (e/2)++Str.ofString ">" :=by unfold txE;rw[au (by omega),BH];rfl
   rw[ec]at kk
   refine⟨q,_,_,.str ">",rfl,rfl,SqL.of eZ,by show atI _ (e%2)=_;rw[c];rfl,txN (e/2),_,rfl,rfl,lim _ ?_,kk⟩
   show(txN (e/2)).length+1<=_
   omega
theorem Ec:Str.ofString "\njoint " = chS 10++Str.ofString "joint " :=by decide +kernel
theorem rY (F:Fn K mg "_law_line_text" jP ["_law_line_here"] f fd)(B:Bm mg)(fv:Fn K mg "_law_end_text" ig ["_law_end"] f1 fd1):fm P w K mg base CX0 2 f fd ["_law_line_here"] (yU K):=by
 have gE:fm P w K mg base CX0 1 f1 fd1 ["_law_end"] o8:=jQ fv B
 refine F.F.ok iG (λvs H Q E h=>?_) (λcdv A outer s H vs Q E hr h=>?_)
 ·obtain⟨v,l,rfl,_⟩:=h;rfl
 ·obtain⟨v,⟨m,js⟩,rfl,hv,sm,k⟩:=h
  obtain⟨a,b,rfl,ht,us,hl,hq⟩:=oy hv
  obtain⟨h1,h2,h3,h4⟩:=id sm
  dsimp only at ht hq h1 h2 h3 h4
  have hul:us.length=js.length:=by rw[Dgs.length hq,aa]
  have lim:∀ n,n<=2000->n<=sizeLine:=λn h=>bq h (by rw[aM];decide)
  refine⟨_,(fb (fQ (i:=1) iG.nd rfl (Or.inl rfl) (fo gO fw (kc rB rfl B.str boot_str (eW (gr lI (pv 0) fc (λ_ _=>rfl)) eX))))
 (fb (jq bH rfl (gg (gr lI (pv 0) fc (λ_ _=>rfl))) (jr (n:=2) rfl (fH (ft (i:=2) iG.nd rfl (Or.inl rfl)) (fH (ft (i:=3) iG.nd rfl (Or.inl rfl)) g9)))
 (fe (fQ (i:=1) iG.nd rfl (Or.inl rfl) (fo gO (fo gO (fo gO (fo gO (pv 1) fw) (fj gE (hr.mono (by decide)) rfl fv.m fv.F.kp fv.b .nil fM (eW (pv 2) eX))) fw) (fj gE (hr.mono (by decide)) rfl fv.m fv.F.kp fv.b .nil fM (eW (pv 3) eX))))))
 (fe (fz (pv 1))))),?_⟩
  have l0:=(EI h1 h2).2
  have l1:(Str.ofString "pieces ").length+(txN m).length=(txP m).length:=by unfold txP;rw[aB]
  refine⟨_,rfl,a,_,_,_,rfl,rfl,ht,rfl,m,rfl,log2_small h1 (by omega),_,_,rfl,rfl,lim _ (by show(Str.ofString "pieces ").length+(txN m).length<=2000;omega),?_⟩
  refine⟨_,rfl,a,_,_,_,rfl,rfl,ht,rfl,b,rfl,⟨us,hl⟩,pI (K:=K) (a:=b) (xs:=us) (λi σ H3=>∃ x2 x3:Option V,σ = [some (.ref a),some (.str (Str.join (chS 10) (txP m::(js.take i).map txJ))),x2,x3]/\fk H H3)
   ⟨none,none,rfl,fk.refl _⟩ (λi σ H3 _ ⟨_,_,_,S⟩=>S.seq hl) ?_ ?_⟩
  ·rintro i y σ H3 hi ⟨x2,x3,rfl,S⟩
   have hi':i<us.length:=(af.mp hi).1
   obtain⟨ad,⟨ea,eb⟩,e1,rfl,hpr⟩:=rq (Das.same S hq) hi
   have hb:=h4 (ea,eb) (aD e1)
   dsimp only at hpr hb
   have f1:=(iF hb.1.1 hb.1.2).2.2
   have f2:=(iF hb.2.1 hb.2.2).2.2
   have g1:(Str.ofString "\njoint ").length=7:=by decide +kernel
   have g2:(Str.ofString " ").length=1:=by decide +kernel
   have hlen:(Str.join (chS 10) (txP m::(js.take i).map txJ)).length<=14*(i+1):=by
    have:=vg (ws:=txP m::(js.take i).map txJ) λw hw=>(yL sm w (by
     rcases aI.mp hw with z |z
     ·exact z ▸ az
     ·obtain⟨p,hp,rfl⟩:=aH.mp z
      exact ar _ (aH.mpr ⟨p,eh hp,rfl⟩))).2
    rw[aQ,aa,aN]at this
    omega
   generalize hT:Str.join (chS 10) (txP m::(js.take i).map txJ)=T at hlen
   refine⟨ad,_,rfl,hpr,rfl,_,_,rfl,_,_,rfl,rfl,?_⟩
   refine⟨_,rfl,T,_,rfl,rfl,lim _ (by omega),_,rfl,ea,rfl,hb.1.1,hb.1.2,λH4 s4=>⟨_,_,rfl,rfl,lim _ ?_,_,_,rfl,rfl,lim _ ?_,_,rfl,eb,rfl,hb.2.1,hb.2.2,λH5 s5=>⟨_,_,rfl,rfl,lim _ ?_,?_⟩⟩⟩
   ·rw[aB];omega
   ·rw[aB,aB];omega
   ·rw[aB,aB,aB];omega
   refine⟨some (.int ea),some (.int eb),?_,S.trans (s4.trans s5)⟩
   have hj:=join_snoc (chS 10) (txJ (ea,eb)) (ws:=txP m::(js.take i).map txJ) (by simp)
   have e3:txP m::(js.take (i+1)).map txJ=(txP m::(js.take i).map txJ) ++ [txJ (ea,eb)]:=by rw[bR,e1,aX];rfl
   rw[e3,hj,hT,Ec]
   unfold txJ
   simp only[Str.append_assoc]
   rfl
  ·rintro σ H3 ⟨x2,x3,rfl,S⟩
   rw[hul,bW]
   exact⟨_,rfl,k H3 S⟩
end
noncomputable def sL {α:Type} :List (Option α)->Option (List α)
 |[]=>some []
 |none::_=>none
 |some a::r=>(sL r).map (a :: ·)
theorem nR {α:Type} :∀ (ds:List α),sL (ds.map some)=some ds
 |[]=>rfl
 |d::ds=>by show(sL (ds.map some)).map (d :: ·)=_;rw[nR ds];rfl
theorem sJ {α:Type} :∀ {rs:List (Option α)},none∈rs->sL rs=none
 |none::_,_=>rfl
 |some a::r,h=>by
  have h:none∈r:=by simpa using h
  show(sL r).map (a :: ·)=_
  rw[sJ h];rfl
noncomputable def rdH (h:Str):Option Int:=match wds h with
 |[a,b]=>if a=Str.ofString "pieces" then mW b.cps.toList else none
 |_=>none
noncomputable def kB (z:Str):Option Ln:=match Txt.split z (chS 10)with
 |[]=>none
 |h::rows=>(rdH h).bind λm=>(sL (rows.map rdJ)).map λjs=>(m,js)
theorem IL {m:Int}(h1:0<=m)(h2:m<41):rdH (txP m)=some m:=by
 unfold rdH
 rw[Im h1 h2]
 show(if _ then _ else _)=_
 rw[aA rfl,(rK h1 h2).1]
theorem DM {l:Ln}(h:small l):kB (txL l)=some l:=by
 unfold kB
 rw[(rL h).1]
 show((rdH (txP l.1)).bind λm=>(sL ((l.2.map txJ).map rdJ)).map λjs=>(m,js))=_
 rw[IL h.1 h.2.1]
 have e:(l.2.map txJ).map rdJ=l.2.map some:=by
  rw[br]
  exact List.map_congr_left λp hp=>IK (h.2.2.2 p hp)
 rw[e,nR];rfl
noncomputable def Gg (K:PySem.W.Frag)(c1 c6:Addr):Sp:=λvs H Q E=>∃ z:Str,vs = [.str z]/\z.length<=20000/\
 (∀ l,kB z=some l->fW l->∀ (p t:Addr) (us:List V) (H':Hp),fk H H'->H p=none->H t=none->H' p=some (.tup [.int l.1,.ref t])->H' t=some (.lst us)->Ps K H' l.2 us->Q (.ref p) H')/\
 (∀ l,kB z=some l->¬fW l->∀ H',fk H H'->∀ e,H' e=none->E (.ref c1) (some e) H')/\
 (kB z=none->∀ H',fk H H'->∀ e,H' e=none->E (.ref c6) (some e) H')
noncomputable abbrev lA:Stmt:=top 61
theorem kj:fC ["text","head","tail","many","line"] ["text"] (fh lA):=⟨rfl,rfl,rfl,by decide +kernel,rfl,by decide +kernel,by decide +kernel⟩
theorem pJ:gq (fh lA) ["text","head","tail","many","line"] {kind:=.function,names:=[(Str.ofString ".0",.local),(Str.ofString "row",.local),(Str.ofString "read_joint",.globalImplicit)],isGenerator:=false,isCoroutine:=false,more:=[]} ["row"] 1 [none]:=⟨rfl,by decide +kernel,by decide +kernel,by decide +kernel,rfl,by decide +kernel,rfl,by decide +kernel⟩
variable {x:Str}
theorem xT {z:Str}{c:Nat}(h:x∈Txt.split z (chS c)):x.length<=z.length:=by
 have h:=uI (sep:=chS c) h
 rw[cE]at h
 exact h
variable {f4:Addr}{fd4:FuncData}
section
variable {P:Program}{w:World}{K:PySem.W.Frag}{mg:Str->Option Value}{base:Heap}{f:Addr}{fd:FuncData}{c6 c1:Addr}{t3 t4:Tok}
theorem xV (F:Fn K mg "read_line" lA ["text"] f fd)(gF:Fn K mg "read_number" i7 ["text"] f1 fd1)(gp:Fn K mg "words_behind" jj ["row","word","many"] f2 fd2)
  (jG:Fn K mg "read_joint" lV ["row"] f3 fd3) (jI:Fn K mg "check_line" lW ["line"] f4 fd4)
  (i8:fm P w K mg base (CXr P w base) 1 f1 fd1 ["text"] (As c6)) (iI:fm P w K mg base (CXr P w base) 1 f2 fd2 ["row","word","many"] (Dz c6))
  (oH:fm P w K mg base (CXr P w base) 3 f3 fd3 ["row"] (Gh c6)) (oK:fm P w K mg base (CXr P w base) 3 f4 fd4 ["line"] (Gj K c1)):fm P w K mg base (CXr P w base) 4 f fd ["text"] (Gg K c1 c6):=by
 refine F.F.okX kj (λvs H Q E h=>?_) (λcdv A outer s H vs Q E hr h=>?_)
 ·obtain⟨z,rfl,_⟩:=h;rfl
 ·obtain⟨z,rfl,hz,k,kl,kt⟩:=h
  refine⟨_,(fb (mD (lQ bO cw PySem.F.type_str_split uU (pv 0) (eW fw eX)) (DU rfl (fH (ft (i:=1) kj.nd rfl (Or.inl rfl)) (DT (ft (i:=2) kj.nd rfl (Or.inl rfl)) g9))))
 (fb (fQ (i:=3) kj.nd rfl (Or.inl rfl) (fj i8 (hr.mono (by decide)) rfl gF.m gF.F.kp gF.b .nil fU (eW (gr gh (fj iI (hr.mono (by decide)) rfl gp.m gp.F.kp gp.b .nil fU (eW (pv 1) (eW fw (eW fc eX)))) fc (λ_ _=>rfl)) eX)))
 (fb (fQ (i:=4) kj.nd rfl (Or.inl rfl) (iE (eW (pv 3) (eW (D5 zg (gg (pv 2)) rfl pJ (.name (by decide)) (λ_ _ _ _=>(ft (i:=0) pJ.nd rfl (Or.inl rfl))) (λ_ _ _ _=>gZ) (λ_ _ _ _=>(fj oH (hr.mono (by decide)) rfl jG.m jG.F.kp jG.b .nil tw (eW (pv 0) eX)))) eX))))
 (fb (kC (fj oK (hr.mono (by decide)) rfl jI.m jI.F.kp jI.b .nil fU (eW (pv 4) eX)))
 (fe (fz (pv 4))))))),?_⟩
  refine⟨_,rfl,rfl,_,_,rfl,rfl,by decide,by omega,λq0 nq0=>?_⟩
  rw[FY]
  obtain⟨hd,tl,hsp⟩:∃ hd tl,Txt.split z (chS 10)=hd::tl:=by
   cases q:Txt.split z (chS 10)with
   |nil=>exact absurd q (qN z 10)
   |cons a r=>exact⟨a,r,rfl⟩
  have hpl:∀ x∈hd::tl,x.length<=20000:=λx hx=>by rw[<-hsp]at hx;have:=xT hx;omega
  have hlen:(hd::tl).length<=20001:=by have h:=rO z 10;have:=yg (Txt.split z (chS 10));rw[hsp]at h this;omega
  rw[aQ]at hlen
  have hrd:kB z=(rdH hd).bind λm=>(sL (tl.map rdJ)).map λjs=>(m,js):=by unfold kB;rw[hsp]
  rw[hsp]
  have s1:fk H (upd H q0 (.lst ((hd::tl).map V.str))):=eY nq0
  have hq0:=eZ (H:=H) (a:=q0) (o:=.lst ((hd::tl).map V.str))
  generalize upd H q0 _=H1 at s1 hq0 ⊢
  refine⟨q0,.str hd,tl.map V.str,rfl,SqL.of hq0,by rw[aa];omega,λq1 nq1=>?_⟩
  have s2:=s1.trans (eY (o:=.lst (tl.map V.str)) nq1)
  have hq1:=eZ (H:=H1) (a:=q1) (o:=.lst (tl.map V.str))
  generalize upd H1 q1 _=H2 at s2 hq1 ⊢
  refine⟨_,_,rfl,_,_,rfl,rfl,?_⟩
  have hhd:=hpl hd az
  refine⟨_,rfl,hd,_,1,rfl,by omega,by decide,by decide,by decide,λhh hl q2 H3 s3 nq2 hq2=>?_,λhn H3 s3 e he=>kt ?_ H3 (s2.trans s3) e he⟩
  rotate_left
  ·rw[hrd]
   have:rdH hd=none:=by
    unfold rdH
    match q:wds hd with
    |[]=>rfl
    |[a]=>rfl
    |[a,b]=>
     show(if _ then _ else _)=_
     rw[au]
     intro ha
     exact hn (by rw[q,ha];exact⟨rfl,rfl⟩)
    |a::b::c::r=>rfl
   rw[this];rfl
  obtain⟨x,hw⟩:∃ x,wds hd = [Str.ofString "pieces",x]:=by
   match q:wds hd with
   |[]=>rw[q]at hh;cases hh
   |[a]=>rw[q]at hl;simp at hl
   |[a,b]=>rw[q]at hh;cases hh;exact⟨b,rfl⟩
   |a::b::c::r=>rw[q]at hl;simp at hl;omega
  have hx:x.length<=20000:=by
   have:x∈wds hd:=by rw[hw];simp
   have:=xT this
   omega
  have hH:rdH hd=mW x.cps.toList:=by
   unfold rdH
   rw[hw]
   show(if _ then _ else _)=_
   rw[aA rfl]
  rw[hw]at hq2
  refine⟨q2,_,0,_,rfl,rfl,SqL.of hq2,jS (j:=0) rfl,x,rfl,by omega,λm hm H4 s4=>?_,λhn H4 s4 e he=>kt (by rw[hrd,hH,hn];rfl) H4 (s2.trans (s3.trans s4)) e he⟩
  rw[hH,hm]at hrd
  have hrd:kB z=(sL (tl.map rdJ)).map λjs=>(m,js):=hrd
  have hq4:SqL K H4 q1 (tl.map V.str):=SqL.of (s4 _ _ (s3 _ _ hq1))
  have T4:=s2.trans (s3.trans s4)
  refine⟨_,rfl,_,rfl,q1,rfl,⟨_,hq4⟩,λt nt=>Es (K:=K) tl.length (tl.map rdJ) dP nt (by rw[aa]) (dh (show tl.length<=20000 by omega) (by rw[aM];decide)) (λi H s hi=>(gI hq4).go i H s (by rw[aa];exact hi)) (λH s=>by have:=(gI hq4).stop H s;rw[aa]at this;exact this) ?_ ?_⟩
  ·intro i y r G G' sm' ⟨vs',hl'⟩ yy hd' P1 P0 kk
   have hi:i<tl.length:=by have:=(af.mp hd').1;rw[aa]at this;exact this
   obtain⟨rfl,hx'⟩:=(gI hq4).yld i G y G' sm' (by rw[aa];exact hi) yy
   rw[aq]at hd' hx'
   obtain⟨row,yl⟩:∃ row,tl[i]? = some row:=⟨tl[i],by simp⟩
   rw[yl]at hd' hx'
   cases hx'
   have hr':rdJ row=r:=by simpa using hd'
   have hm':row∈tl:=aD yl
   have hrl:=hpl row (ar _ hm')
   refine iY ?_
   refine⟨_,rfl,row,rfl,by omega,λp hp q3 G2 sG nq3 hq3=>?_,λhn G2 sG e he=>kt ?_ G2 (T4.trans (sm'.trans sG)) e he⟩
   ·refine kk p (by rw[<-hr',hp]) _ _ sG (gC.mpr ⟨q3,_,rfl,SqT.of ?_,Dgs.two (gD.mpr rfl) (gD.mpr rfl)⟩)
    rw[ow (bX (fu hl' nq3)),hq3]
   ·rw[hrd,sJ (aH.mpr ⟨row,hm',hn⟩)];rfl
  intro js us1 H5 hjs s5 h5 D1
  rw[hjs,nR]at hrd
  have hrd:kB z=some (m,js):=hrd
  have hjl:js.length<=20000:=by have:=cg List.length hjs;rw[aa,aa]at this;omega
  have D1:Ps K H5 js us1:=wN (Das.same pF D1)
  refine⟨by show 2<=sizeLine;decide,λp np=>?_⟩
  have s6:=eY (o:=.tup [.int m,.ref t]) np
  have D2:=D1.same s6
  have h6:=s6 _ _ h5
  have hp6:=eZ (H:=H5) (a:=p) (o:=.tup [.int m,.ref t])
  have s7:=T4.trans s5
  have nt0:H t=none:=nM T4 nt
  have np0:H p=none:=nM s7 np
  generalize upd H5 p _=H6 at s6 D2 h6 hp6 ⊢
  refine⟨_,rfl,_,(m,js),rfl,CU hp6 (D2.da h6),by show js.length<=100000;omega,λhL H7 s8=>?_,λhn H7 s8 e he=>kl _ hrd hn H7 (s7.trans (s6.trans s8)) e he⟩
  exact⟨_,rfl,k _ hrd hL p t us1 H7 (s7.trans (s6.trans s8)) np0 nt0 (s8 _ _ hp6) (s8 _ _ h6) (D2.same s8)⟩
end
noncomputable def rdT (z:Str):Option (List Int):=sL ((wds z).map λx=>lC x.cps.toList)
theorem Ai {α:Type} :∀ {rs:List (Option α)}{ds:List α},sL rs=some ds->rs=ds.map some
 |[],ds,h=>by cases h;rfl
 |none::r,ds,h=>by cases h
 |some x::r,ds,h=>by
  have h:(sL r).map (x :: ·)=some ds:=h
  cases q:sL r with
  |none=>rw[q]at h;cases h
  |some es=>rw[q]at h;cases h;rw[Ai q];rfl
noncomputable def Gf (C:Addr):Sp:=λvs H Q E=>∃ z:Str,vs = [.str z]/\z.length<=20000/\(∀ ns,rdT z=some ns->qh H ns Q)/\(rdT z=none->∀ H',fk H H'->∀ e,H' e=none->E (.ref C) (some e) H')
noncomputable abbrev kz:Stmt:=top 62
theorem vU:fC ["text"] ["text"] (fh kz):=⟨rfl,rfl,rfl,by decide +kernel,rfl,by decide +kernel,by decide +kernel⟩
theorem oX:gq (fh kz) ["text"] {kind:=.function,names:=[(Str.ofString ".0",.local),(Str.ofString "word",.local),(Str.ofString "read_end",.globalImplicit)],isGenerator:=false,isCoroutine:=false,more:=[]} ["word"] 1 [none]:=⟨rfl,by decide +kernel,by decide +kernel,by decide +kernel,rfl,by decide +kernel,rfl,by decide +kernel⟩
section
variable {P:Program}{w:World}{K:PySem.W.Frag}{mg:Str->Option Value}{base:Heap}{f:Addr}{fd:FuncData}{c6:Addr}
theorem Fc {z:Str}(hz:z.length<=20000):(wds z).length<=20001:=by have h:=rO z 32;have:=yg (Txt.split z (chS 32));unfold wds;omega
theorem wa (F:Fn K mg "read_train" kz ["text"] f fd)(fS:Fn K mg "read_end" jT ["text"] f1 fd1)
  (gW:fm P w K mg base (CXr P w base) 2 f1 fd1 ["text"] (qQ c6)):fm P w K mg base (CXr P w base) 3 f fd ["text"] (Gf c6):=by
 refine F.F.okX vU (λvs H Q E h=>?_) (λcdv A outer s H vs Q E hr h=>?_)
 ·obtain⟨z,rfl,_⟩:=h;rfl
 ·obtain⟨z,rfl,hz,k,kt⟩:=h
  have hwl:=Fc hz
  have hpl:∀ x∈wds z,x.length<=20000:=λx hx=>by have:=xT hx;omega
  refine⟨_,(fe (fz (D5 zg (gg (lQ bO cw PySem.F.type_str_split uU (pv 0) (eW fw eX))) rfl oX (.name (by decide)) (λ_ _ _ _=>(ft (i:=0) oX.nd rfl (Or.inl rfl))) (λ_ _ _ _=>gZ) (λ_ _ _ _=>(fj gW (hr.mono (by decide)) rfl fS.m fS.F.kp fS.b .nil tw (eW (pv 0) eX)))))),?_⟩
  refine⟨_,rfl,rfl,_,_,rfl,rfl,by decide,by omega,λq0 nq0=>?_⟩
  rw[kJ]
  have s1:fk H (upd H q0 (.lst ((wds z).map V.str))):=eY nq0
  have hq0:(upd H q0 (.lst ((wds z).map V.str))) q0=some (.lst ((wds z).map V.str)):=eZ
  show ∃ a,V.ref q0 = .ref a/\_
  have hq4:SqL K (upd H q0 (.lst ((wds z).map V.str))) q0 ((wds z).map V.str):=SqL.of hq0
  refine⟨q0,rfl,⟨_,hq4⟩,λt nt=>Es (K:=K) (wds z).length ((wds z).map λx=>lC x.cps.toList) PyData.int nt (by rw[aa]) (dh hwl (by rw[aM];decide)) (λi H s hi=>(gI hq4).go i H s (by rw[aa];exact hi)) (λH s=>by have:=(gI hq4).stop H s;rw[aa]at this;exact this) ?_ ?_⟩
  ·intro i y r G G' sm' ⟨vs',hl'⟩ yy hd' P1 P0 kk
   have hi:i<(wds z).length:=by have:=(af.mp hd').1;rw[aa]at this;exact this
   obtain⟨rfl,hx'⟩:=(gI hq4).yld i G y G' sm' (by rw[aa];exact hi) yy
   rw[aq]at hd' hx'
   obtain⟨row,yl⟩:∃ row,(wds z)[i]? = some row:=⟨(wds z)[i],by simp⟩
   rw[yl]at hd' hx'
   cases hx'
   have hr':lC row.cps.toList=r:=by simpa using hd'
   have hm':row∈wds z:=aD yl
   have hrl:=hpl row hm'
   refine iY ?_
   refine⟨_,rfl,row,rfl,by omega,λn hn G2 sG=>kk n (by rw[<-hr',hn]) _ _ sG (gD.mpr rfl),λhn G2 sG e he=>kt ?_ G2 (s1.trans (sm'.trans sG)) e he⟩
   unfold rdT
   exact sJ (aH.mpr ⟨row,hm',hn⟩)
  intro ns us1 H5 hjs s5 h5 D1
  have hrd:rdT z=some ns:=by unfold rdT;rw[hjs,nR]
  rw[mH.mp D1]at h5
  exact k ns hrd t H5 (s1.trans s5) (nM s1 nt) h5
end
noncomputable def txT (ns:List Int):Str:=Str.join (chS 32) (ns.map txE)
noncomputable def txM (k:Str×Int):Str:=k.1++Str.ofString " " ++ txE k.2
noncomputable def uh (run:List (Str×Int)):Str:=Str.join (chS 32) (run.map txM)++(if(if run.isEmpty=true then(1:Int)else 0)=1 then Str.ofString "-" else Str.empty)
noncomputable def OkN (ns:List Int):Prop:=ns.length<=41/\∀ e∈ns,0<=e/\e<82
noncomputable def OkK (run:List (Str×Int)):Prop:=run.length<=330/\∀ k∈run,(k.1=Str.ofString "on" \/k.1=Str.ofString "back")/\0<=k.2/\k.2<82
theorem sk (n:Nat):∀ {ws:List Str},(∀ w∈ws,w.length<=n)->(Str.join (chS 32) ws).length<=(n+1)*ws.length
 |[],_=>aP _
 |[a],h=>by
  have:=h a az
  show a.length<=(n+1)*1
  omega
 |a::b::r,h=>by
  have h1:=h a az
  have h2:=sk n (ws:=b::r) λw hw=>h w (ar _ hw)
  rw[hV,aB,aB,aQ,Nat.mul_succ]
  show a.length+1+_<=_
  omega
theorem Gm {ns:List Int}(h:OkN ns)(hne:ns≠ []):rdT (txT ns)=some ns/\(txT ns).length<=200:=by
 have hs:wds (txT ns)=ns.map txE:=by
  unfold wds txT
  refine nZ (by simpa using hne) λw hw=>?_
  obtain⟨e,he,rfl⟩:=aH.mp hw
  exact λz=>by have:=(iF (h.2 e he).1 (h.2 e he).2).2.1 _ z;omega
 refine⟨?_,?_⟩
 ·unfold rdT
  rw[hs,br]
  have:(ns.map ((λx:Str=>lC x.cps.toList) ∘ txE))=ns.map some:=List.map_congr_left λe he=>(iF (h.2 e he).1 (h.2 e he).2).1
  rw[this,nR]
 ·have:=sk 3 (ws:=ns.map txE) λw hw=>by
   obtain⟨e,he,rfl⟩:=aH.mp hw
   exact(iF (h.2 e he).1 (h.2 e he).2).2.2
  rw[aa]at this
  have:=h.1
  unfold txT
  omega
theorem nD (h:x=Str.ofString "on" \/x=Str.ofString "back"):(∀ c∈x.cps.toList,97<=c)/\x.length<=4:=by
 rcases h with rfl |rfl<;>decide +kernel
noncomputable def nF (K:PySem.W.Frag):Sp:=λvs H Q _=>∃ (v:V) (ns:List Int),vs = [v]/\Da K H (dI ns) v/\OkN ns/\∀ H',fk H H'->Q (.str (txT ns)) H'
noncomputable def qO (K:PySem.W.Frag):Sp:=λvs H Q _=>∃ (v:V) (run:List (Str×Int)),vs = [v]/\Da K H (dR run) v/\OkK run/\∀ H',fk H H'->Q (.str (uh run)) H'
noncomputable abbrev ic:Stmt:=top 94
theorem qU:fC ["_law_train_here"] ["_law_train_here"] (fh ic):=⟨rfl,rfl,rfl,by decide +kernel,rfl,by decide +kernel,by decide +kernel⟩
theorem lT:gq (fh ic) ["_law_train_here"] {kind:=.function,names:=[(Str.ofString ".0",.local),(Str.ofString "_law_end",.local),(Str.ofString "_law_end_text",.globalImplicit)],isGenerator:=false,isCoroutine:=false,more:=[]} ["_law_end"] 1 [none]:=⟨rfl,by decide +kernel,by decide +kernel,by decide +kernel,rfl,by decide +kernel,rfl,by decide +kernel⟩
noncomputable abbrev jk:Stmt:=top 95
theorem tQ:fC ["_law_run"] ["_law_run"] (fh jk):=⟨rfl,rfl,rfl,by decide +kernel,rfl,by decide +kernel,by decide +kernel⟩
theorem kH:gq (fh jk) ["_law_run"] {kind:=.function,names:=[(Str.ofString ".0",.local),(Str.ofString "_law_word",.local),(Str.ofString "_law_end",.local),(Str.ofString "_law_end_text",.globalImplicit)],isGenerator:=false,isCoroutine:=false,more:=[]} ["_law_word","_law_end"] 2 [none,none]:=⟨rfl,by decide +kernel,by decide +kernel,by decide +kernel,rfl,by decide +kernel,rfl,by decide +kernel⟩
section
variable {P:Program}{w:World}{K:PySem.W.Frag}{mg:Str->Option Value}{base:Heap}{f:Addr}{fd:FuncData}
theorem q9 (F:Fn K mg "_law_train_text" ic ["_law_train_here"] f fd)(B:Bm mg)(fv:Fn K mg "_law_end_text" ig ["_law_end"] f1 fd1):fm P w K mg base CX0 2 f fd ["_law_train_here"] (nF K):=by
 have gE:fm P w K mg base CX0 1 f1 fd1 ["_law_end"] o8:=jQ fv B
 refine F.F.ok qU (λvs H Q E h=>?_) (λcdv A outer s H vs Q E hr h=>?_)
 ·obtain⟨v,ns,rfl,_⟩:=h;rfl
 ·obtain⟨v,ns,rfl,hv,hN,k⟩:=h
  obtain⟨a,rfl,hS⟩:=kF.mp hv
  have hl:=hN.1
  refine⟨_,(fe (fz (lQ bO dE dD uc fw (eW (nL (gg (pv 0)) rfl lT (.name (by decide)) (λ_ _ _ _=>(ft (i:=0) lT.nd rfl (Or.inl rfl))) (λ_ _ _ _=>gZ) (λ_ _ _ _=>(fj gE (hr.mono (by decide)) rfl fv.m fv.F.kp fv.b .nil fM (eW (pv 0) eX)))) eX)))),?_⟩
  refine⟨rfl,_,rfl,a,rfl,⟨_,hS⟩,λt nt=>qa ns.length ns (λ_=>true) (λe=>V.str (txE e)) nt rfl (jf (by omega)) (λi H s hi=>(gI hS).go i H s (by rw[aa];exact hi)) (λH s=>by have:=(gI hS).stop H s;rw[aa]at this;exact this) ?_ ?_⟩
  ·intro i y d G G' sG yy hd P1 P0 p1 p0
   have hi:i<ns.length:=(af.mp hd).1
   obtain⟨rfl,hx'⟩:=(gI hS).yld i G y G' sG (by rw[aa];exact hi) yy
   rw[aq,hd]at hx'
   cases hx'
   have he:=hN.2 d (aD hd)
   refine iY ?_
   exact⟨_,rfl,d,rfl,he.1,he.2,λG2 sG2=>p1 G2 rfl sG2⟩
  intro H5 s5 h5
  rw[iH]at h5
  refine⟨_,t,ns.map txE,rfl,rfl,SqL.of (by rw[h5,br];rfl),λy hy=>?_,by rw[aa];omega,by decide,?_⟩
  ·obtain⟨e,he,rfl⟩:=aH.mp hy
   have:=(iF (hN.2 e he).1 (hN.2 e he).2).2.2
   omega
  ·rw[kJ]
   exact k _ s5
theorem tT (F:Fn K mg "_law_run_text" jk ["_law_run"] f fd)(B:Bm mg)(fv:Fn K mg "_law_end_text" ig ["_law_end"] f1 fd1):fm P w K mg base CX0 2 f fd ["_law_run"] (qO K):=by
 have gE:fm P w K mg base CX0 1 f1 fd1 ["_law_end"] o8:=jQ fv B
 refine F.F.ok tQ (λvs H Q E h=>?_) (λcdv A outer s H vs Q E hr h=>?_)
 ·obtain⟨v,run,rfl,_⟩:=h;rfl
 ·obtain⟨v,run,rfl,hv,hK,k⟩:=h
  obtain⟨a,us,rfl,hS,D⟩:=jg.mp hv
  have hl:=hK.1
  have ul:us.length=run.length:=by have:=Dgs.length D;rw[aa]at this;exact this
  refine⟨_,(fe (fz (fo gO (lQ bO dE dD uc fw (eW (nL (gg (pv 0)) rfl kH (.tup (.cons (.name (by decide)) (.cons (.name (by decide)) .nil))) (λ_ _ _ _=>(jr (n:=2) rfl (fH (ft (i:=0) kH.nd rfl (Or.inl rfl)) (fH (ft (i:=1) kH.nd rfl (Or.inl rfl)) g9)))) (λ_ _ _ _=>gZ) (λ_ _ _ _=>(fo gO (fo gO (pv 0) fw) (fj gE (hr.mono (by decide)) rfl fv.m fv.F.kp fv.b .nil fM (eW (pv 1) eX))))) eX)) (fo FA fw (kc sH rfl B.int boot_int (eW (t9 (uO hr.units) (pv 0) (gB eX) (iS _)) eX)))))),?_⟩
  refine⟨rfl,_,rfl,a,rfl,⟨_,hS⟩,λt nt=>qa run.length run (λ_=>true) (λk=>V.str (txM k)) nt rfl (jf (by omega)) (λi H s hi=>(gI hS).go i H s (by rw[ul];exact hi)) (λH s=>by have:=(gI hS).stop H s;rw[ul]at this;exact this) ?_ ?_⟩
  ·intro i y d G G' sG yy hd P1 P0 p1 p0
   have hi:i<run.length:=(af.mp hd).1
   obtain⟨rfl,hx'⟩:=(gI hS).yld i G y G' sG (by rw[ul];exact hi) yy
   obtain⟨kq,hk,dk⟩:=ES (Das.same sG D) hx'
   rw[hd]at hk
   cases hk
   obtain⟨ad,rfl,hA⟩:=F1 dk
   obtain⟨g1,g2,g3⟩:=hK.2 d (aD hd)
   have gl:=(nD g1).2
   have e4:(Str.ofString " ").length=1:=by decide +kernel
   have gt:=(iF g2 g3).2.2
   refine⟨ad,_,rfl,hA,rfl,_,_,rfl,_,_,rfl,rfl,?_⟩
   unfold Ce
   dsimp only
   rw[aA rfl]
   refine⟨_,rfl,_,_,rfl,rfl,by rw[aM];omega,_,rfl,d.2,rfl,g2,g3,λG2 sG2=>⟨_,_,rfl,rfl,?_,p1 G2 rfl sG2⟩⟩
   rw[aB,aM];omega
  intro H5 s5 h5
  rw[iH]at h5
  have hml:∀ y∈run.map txM,y.length<=8:=λy hy=>by
   obtain⟨kq,hk,rfl⟩:=aH.mp hy
   obtain⟨g1,g2,g3⟩:=hK.2 kq hk
   have gl:=(nD g1).2
   have e4:(Str.ofString " ").length=1:=by decide +kernel
   have gt:=(iF g2 g3).2.2
   unfold txM
   rw[aB,aB];omega
  refine⟨_,t,run.map txM,rfl,rfl,SqL.of (by rw[h5,br];rfl),λy hy=>by have:=hml y hy;omega,by rw[aa];omega,by decide,?_⟩
  rw[kJ]
  refine⟨_,rfl,aP _,λe ne=>?_⟩
  have se:=eY (o:=.lst []) ne
  have he:=eZ (H:=H5) (a:=e) (o:=.lst [])
  generalize upd H5 e _=H6 at se he ⊢
  refine⟨dR run,.list [],Da.same (s5.trans se) hv,gR (ns:=[]) he,Gs λkq hk=>kQ (hK.2 kq hk).1,rg,.inr ⟨_,rfl,?_⟩⟩
  rw[JD]
  refine⟨_,_,rfl,rfl,by decide,by cases run.isEmpty<;>simp,_,_,rfl,rfl,?_,k _ (s5.trans se)⟩
  have:=sk 8 hml
  rw[aa]at this
  have e5:(if(if run.isEmpty=true then(1:Int)else 0)=1 then Str.ofString "-" else Str.empty).length<=1:=by cases run.isEmpty<;>decide +kernel
  rw[aM]
  omega
end
noncomputable def pX (K:PySem.W.Frag):Sp:=λvs H Q _=>∃ (v:V) (l:Ln) (e:Int),vs = [v,.int e]/\Da K H (dL l) v/\ij l/\(∀ p∈l.2,p.1≠p.2)/\qh H (jn l.2 e) Q
noncomputable def yT (K:PySem.W.Frag):Sp:=λvs H Q _=>∃ (v:V) (l:Ln) (c n:Int),vs = [v,.int c,.int n]/\Da K H (dL l) v/\ij l/\(∀ p∈l.2,p.1≠p.2)/\0<=c/\1<=n/\n<=40/\
 ∀ (p:Addr) (ns:List Int) (H':Hp),fk H H'->H p=none->H' p=some (.lst (ns.map V.int))->ns≠ []->(ns.length:Int)<=n->o5 l ns->Q (.ref p) H'
noncomputable def uo (K:PySem.W.Frag):Sp:=λvs H Q _=>∃ (v u:V) (l:Ln) (ns:List Int),vs = [v,u]/\Da K H (dL l) v/\Da K H (dI ns) u/\ij l/\(∀ p∈l.2,p.1≠p.2)/\ns≠ []/\ns.length<=900/\Aj K H (mvs l ns) Q
noncomputable abbrev iQ:Stmt:=top 89
theorem vW:fC ["_law_line_here","_law_end"] ["_law_line_here","_law_end"] (fh iQ):=⟨rfl,rfl,rfl,by decide +kernel,rfl,by decide +kernel,by decide +kernel⟩
theorem lL:gq (fh iQ) ["_law_line_here","_law_end"] {kind:=.function,names:=[(Str.ofString ".0",.local),(Str.ofString "_law_a",.local),(Str.ofString "_law_b",.local),(Str.ofString "_law_end",.free)],isGenerator:=false,isCoroutine:=false,more:=[]} ["_law_a","_law_b","_law_end"] 2 [none,none,some 1]:=⟨rfl,by decide +kernel,by decide +kernel,by decide +kernel,rfl,by decide +kernel,rfl,by decide +kernel⟩
noncomputable abbrev j6:Stmt:=top 90
theorem km:fC ["_law_line_here","_law_number","_law_most","_law_train_here","_law_k","_law_pieces","_law_some"] ["_law_line_here","_law_number","_law_most"] (fh j6):=⟨rfl,rfl,rfl,by decide +kernel,rfl,by decide +kernel,by decide +kernel⟩
theorem pL:gq (fh j6) ["_law_line_here","_law_number","_law_most","_law_train_here","_law_k","_law_pieces","_law_some"] {kind:=.function,names:=[(Str.ofString ".0",.local),(Str.ofString "_law_end",.local)],isGenerator:=false,isCoroutine:=false,more:=[]} ["_law_end"] 1 [none]:=⟨rfl,by decide +kernel,by decide +kernel,by decide +kernel,rfl,by decide +kernel,rfl,by decide +kernel⟩
theorem pK:gq (fh j6) ["_law_line_here","_law_number","_law_most","_law_train_here","_law_k","_law_pieces","_law_some"] {kind:=.function,names:=[(Str.ofString ".0",.local),(Str.ofString "_law_end",.local),(Str.ofString "_law_pieces",.free)],isGenerator:=false,isCoroutine:=false,more:=[]} ["_law_end","_law_pieces"] 1 [none,some 5]:=⟨rfl,by decide +kernel,by decide +kernel,by decide +kernel,rfl,by decide +kernel,rfl,by decide +kernel⟩
noncomputable abbrev j8:Stmt:=top 91
theorem ko:fC ["_law_line_here","_law_train_here","_law_end","_law_pieces","_law_found"] ["_law_line_here","_law_train_here"] (fh j8):=⟨rfl,rfl,rfl,by decide +kernel,rfl,by decide +kernel,by decide +kernel⟩
theorem pM:gq (fh j8) ["_law_line_here","_law_train_here","_law_end","_law_pieces","_law_found"] {kind:=.function,names:=[(Str.ofString ".0",.local),(Str.ofString "_law_end",.local)],isGenerator:=false,isCoroutine:=false,more:=[]} ["_law_end"] 1 [none]:=⟨rfl,by decide +kernel,by decide +kernel,by decide +kernel,rfl,by decide +kernel,rfl,by decide +kernel⟩
section
variable {P:Program}{w:World}{K:PySem.W.Frag}{mg:Str->Option Value}{base:Heap}{f:Addr}{fd:FuncData}
theorem nj (F:Fn K mg "_law_joined" iQ ["_law_line_here","_law_end"] f fd)(B:Bl mg):fm P w K mg base CX0 1 f fd ["_law_line_here","_law_end"] (pX K):=by
 refine F.F.ok vW (λvs H Q E h=>?_) (λcdv A outer s H vs Q E hr h=>?_)
 ·obtain⟨v,l,e,rfl,_⟩:=h;rfl
 ·obtain⟨v,l,e,rfl,hv,ok,hnp,k⟩:=h
  obtain⟨a,b,rfl,ht,us,hl,hq⟩:=oy hv
  have hlen:=rz hq
  have hz:us.length<sizeLine:=gv (by rw[hlen];have:=ok.len;omega)
  refine⟨_,(fe (fz (gd (rC rfl) rfl B.sorted boot_sorted (eW (nL (gg (gr lI (pv 0) fc (λ_ _=>rfl))) rfl lL (.tup (.cons (.name (by decide)) (.cons (.name (by decide)) .nil))) (λ_ _ _ _=>(jr (n:=2) rfl (fH (ft (i:=0) lL.nd rfl (Or.inl rfl)) (fH (ft (i:=1) lL.nd rfl (Or.inl rfl)) g9)))) (λ_ _ _ _=>(nJ (gG (AE (K:=K) rfl) (pv 2) (iE (eW (pv 0) (eW (pv 1) eX))) (by with_unfolding_all rfl)))) (λ_ _ _ _=>(fo xU (fo jd (pv 0) (pv 1)) (pv 2)))) eX)))),?_⟩
  refine⟨_,rfl,a,_,_,_,rfl,rfl,ht,rfl,b,rfl,⟨us,hl⟩,λl1 n1=>qa us.length l.2 (λp=>decide (p.1=e\/p.2=e)) (λp=>V.int (p.1+p.2-e)) n1 hlen hz (λi H s hi=>(gI hl).go i H s hi) (λH s=>(gI hl).stop H s) ?_ ?_⟩
  ·intro i x d H' H2 sm y hd P1 P0 q1 q0
   obtain⟨rfl,y⟩:=y
   obtain⟨ad,p,e1,rfl,hp⟩:=rq (Das.same sm hq) (y _ (sm.seq hl))
   rw[hd]at e1;cases e1
   refine⟨ad,_,rfl,hp,rfl,_,_,rfl,_,_,rfl,rfl,_,rfl,_,rfl,_,rfl,by show 2<=sizeLine;decide,λt nt=>?_⟩
   have st:=eY (o:=.tup [.int d.1,.int d.2]) nt
   refine⟨t,_,rfl,.inr (SqT.of eZ),rfl,rfl,_,rfl,?_⟩
   have ein:inV (.int e) [.int d.1,.int d.2]=decide (d.1=e\/d.2=e):=by
    rw[cn];simp[inV,eqV]
   refine fY (λh=>?_) (λh=>?_)
   ·have h:inV (.int e) [.int d.1,.int d.2]=true:=h
    rw[ein]at h
    exact⟨_,rfl,_,rfl,_,_,rfl,rfl,_,rfl,_,_,rfl,rfl,q1 _ h st⟩
   ·have h:¬inV (.int e) [.int d.1,.int d.2]=true:=h
    rw[ein]at h
    exact q0 _ (by simpa using h) st
  intro H2 s2 hl2
  have hln:((l.2.filter λp=>decide (p.1=e\/p.2=e)).map λp=>p.1+p.2-e).length<=160:=by
   have h:=nY ((l.2.filter λp=>decide (p.1=e\/p.2=e)).map λp=>p.1+p.2-e)
   rw[EA hnp]at h
   rw[<-h];exact vh ok e
  refine⟨l1,(l.2.filter λp=>decide (p.1=e\/p.2=e)).map (λp=>p.1+p.2-e),rfl,SqL.of (by rw[hl2,br];rfl),by omega,λp2 hp2=>?_⟩
  rw[EA hnp]
  exact k p2 _ (s2.trans (eY hp2)) (fk.free s2 hp2) eZ
theorem xW (F:Fn K mg "_law_train" j6 ["_law_line_here","_law_number","_law_most"] f fd)(fV:Fn K mg "_law_mix" me ["_law_cell","_law_k"] f1 fd1)(fI:Fn K mg "_law_other" jm ["_law_end"] f2 fd2)
  (fP:Fn K mg "_law_joined" iQ ["_law_line_here","_law_end"] f3 fd3) (B:Bl mg):fm P w K mg base CX0 2 f fd ["_law_line_here","_law_number","_law_most"] (yT K):=by
 have ke:fm P w K mg base CX0 1 f1 fd1 ["_law_cell","_law_k"] xx:=qz fV B
 have iO:fm P w K mg base CX0 1 f2 fd2 ["_law_end"] ki:=lY fI
 have jE:fm P w K mg base CX0 1 f3 fd3 ["_law_line_here","_law_end"] (pX K):=nj fP B
 refine F.F.ok km (λvs H Q E h=>?_) (λcdv A outer s H vs Q E hr h=>?_)
 ·obtain⟨v,l,c,n,rfl,_⟩:=h;rfl
 ·obtain⟨v,l,c,n,rfl,hv,ok,hnp,hc0,h1,h40,k⟩:=h
  obtain⟨a,b,rfl,ht,us,hl,hq⟩:=oy hv
  have o1:=ok.one
  refine⟨_,(fb (fQ (i:=3) km.nd rfl (Or.inl rfl) (gB (eW (fo gM (pv 1) (fo jt fc (gr lI (pv 0) fc (λ_ _=>rfl)))) eX)))
 (fb (jq bH rfl (p6 rfl B.range (eW (fo gM (fo gH (pv 1) fc) (pv 2)) eX)) (ft (i:=4) km.nd rfl (Or.inl rfl))
 (fb (fQ (i:=5) km.nd rfl (Or.inr rfl) (nL (gg (pv 3)) rfl pL (.name (by decide)) (λ_ _ _ _=>(ft (i:=0) pL.nd rfl (Or.inl rfl))) (λ_ _ _ _=>gZ) (λ_ _ _ _=>(fo gH (pv 0) fc))))
 (fb (uE (i:=6) km.nd rfl rfl (gg (fj jE (hr.mono (by decide)) rfl fP.m fP.F.kp fP.b .nil fM (eW (pv 0) (eW (fj iO (hr.mono (by decide)) rfl fI.m fI.F.kp fI.b .nil fM (eW (gr gh (pv 3) (qZ nV fc) (λ_ _=>rfl)) eX)) eX)))) rfl pK (.name (by decide)) (λ_ _ _ _=>(ft (i:=0) pK.nd rfl (Or.inl rfl))) (λ_ _ _ _=>(nJ (gG (uN (K:=K) rfl hr.units) (fo gH (pv 0) fc) (pv 1) (by with_unfolding_all rfl)))) (λ_ _ _ _=>(pv 0)))
 (fe (gf (gG (Hg hr.units) (pv 6) (gB eX) (iS _))
 (fe (kC (lQ bJ cG cF kU (pv 3) (eW (gr gh (pv 6) (fo gM (fj ke (hr.mono (by decide)) rfl fV.m fV.F.kp fV.b .nil fM (eW (pv 1) (eW (fo jd fc (pv 4)) eX))) (gd iB rfl B.len dZ (eW (pv 6) eX))) (λ_ _=>rfl)) eX)))) fD)))))
 (fe (fz (pv 3))))),?_⟩
  refine⟨_,rfl,_,rfl,a,_,_,_,rfl,rfl,ht,rfl,_,_,rfl,rfl,.inl ⟨by decide,by decide⟩,_,_,rfl,rfl,(by show(0:Int)<2*l.1;omega),by show 1<=sizeLine;decide,λt nt=>?_⟩
  have e0:0<=c%(2*l.1):=cb _ (by omega)
  have e1:c%(2*l.1)<2*l.1:=bM _ (by omega)
  have m0:0<=c/100%n:=cb _ (by omega)
  have m1:c/100%n<n:=bM _ (by omega)
  refine⟨_,rfl,_,_,rfl,rfl,⟨by decide,by decide⟩,_,rfl,_,_,rfl,rfl,(by show(0:Int)<n;omega),_,rfl,by show -(2 ^ 62)<=c/100%n;omega,by show c/100%n<2 ^ 62;omega,sv (λi σ H3=>∃ (ns:List Int) (x4 x5 x6:Option V),σ = [some (.ref a),some (.int c),some (.int n),some (.ref t),x4,x5,x6]/\fk H H3/\H3 t=some (.lst (ns.map V.int))/\ns≠ []/\ns.length<=i+1/\o5 l ns)
   ⟨[c%(2*l.1)],none,none,none,rfl,eY nt,eZ,by simp,ai _,⟨λe he=>(by rw[bp.mp he];exact⟨e0,e1⟩),by simp,λi x y hx hy=>by simp at hy⟩⟩ ?_ ?_⟩
  ·rintro i σ H3 hi ⟨ns,x4,x5,x6,rfl,S3,ht3,hne,nl,T⟩
   have hi':i+1<=39:=by
    have h:i<(c/100%n).toNat:=hi
    omega
   refine⟨_,rfl,t,rfl,⟨_,SqL.of ht3⟩,λpc npc=>lZ ns (λ_=>true) (λe=>V.int (e/2)) npc (SqL.of ht3) (by rw[aa]) (by rw[aa];exact jf (by omega)) ?_ ?_⟩
   ·intro j x d H' hx hd sm P1 P0 k1 k0
    rw[aq,hd]at hx
    cases hx
    refine iY ?_
    exact⟨_,rfl,_,_,rfl,rfl,⟨by decide,by decide⟩,k1 rfl⟩
   rw[iH]
   have e1:(ns.map λe=>V.int (e/2))=(ns.map (· / 2)).map V.int:=by rw[br];rfl
   rw[e1]
   have s4:fk H3 (upd H3 pc (.lst ((ns.map (· / 2)).map V.int))):=eY npc
   refine⟨_,rfl,_,rfl,_,rfl,t,_,_,_,rfl,rfl,SqL.of (s4 _ _ ht3),TL.qg hne,_,rfl,_,l,_,rfl,Da.same (S3.trans s4) hv,ok,hnp,λp H5 s5 hp hp2=>⟨p,rfl,⟨_,SqL.of hp2⟩,λq nq=>lZ (jn l.2 (oth (ns.getLastD 0))) (λt=> !decide (t/2∈ns.map (· / 2))) (λt=>V.int t) nq (SqL.of hp2) (by rw[aa]) ?_ ?_ ?_⟩⟩
   ·rw[aa]
    exact jf (by have:=vh ok (oth (ns.getLastD 0));omega)
   ·intro j x d H' hx hd sm P1 P0 k1 k0
    rw[aq,hd]at hx
    cases hx
    have hD:Da K H' (.list ((ns.map (· / 2)).map .int)) (.ref pc):=Da.same (s5.trans sm) (gR eZ)
    refine⟨_,rfl,_,_,rfl,rfl,⟨by decide,by decide⟩,_,rfl,_,.int (d/2),hD,gD.mpr rfl,sd _,p7 _,_,rfl,?_⟩
    rw[xo]
    exact fY (λh=>⟨_,rfl,k1 h⟩) (λh=>k0 (by simpa using h))
   have efr:((jn l.2 (oth (ns.getLastD 0))).filter λt=> !decide (t/2∈ns.map (· / 2)))=fr l ns (oth (ns.getLastD 0)):=rfl
   rw[efr]
   have S6:fk H3 (upd H5 q (.lst ((fr l ns (oth (ns.getLastD 0))).map V.int))):=(s4.trans s5).trans (eY nq)
   refine⟨_,rfl,aP _,λe ne=>?_⟩
   have s7:=eY (o:=.lst []) ne
   have hq7:=s7 _ _ (eZ (H:=H5) (a:=q) (o:=.lst ((fr l ns (oth (ns.getLastD 0))).map V.int)))
   refine⟨dI (fr l ns (oth (ns.getLastD 0))),.list [],gR hq7,gR (ns:=[]) eZ,uS _,rg,_,rfl,?_⟩
   have ee:PyData.eqv (dI (fr l ns (oth (ns.getLastD 0)))) (.list [])=((fr l ns (oth (ns.getLastD 0))).map PyData.int).isEmpty:=kE _
   rw[ee]
   refine fY (λhem=>?_) (λ_=>?_)
   ·have FR:0<(fr l ns (oth (ns.getLastD 0))).length:=by
     cases hh:fr l ns (oth (ns.getLastD 0))with
     |nil=>rw[hh]at hem;exact absurd hem (by decide)
     |cons x r=>simp
    refine⟨_,rfl,.inl ⟨rfl,_,SqL.of (s7 _ _ (S6 _ _ ht3))⟩,_,rfl,_,rfl,_,rfl,_,_,rfl,rfl,c,_,rfl,by show(0:Int)<=3+(0+(i:Int));omega,by show 3+(0+(i:Int))<=1000;omega,λm m0 m1=>?_⟩
    have r0:0<=m%((fr l ns (oth (ns.getLastD 0))).length:Int):=cb _ (by omega)
    have r1:m%((fr l ns (oth (ns.getLastD 0))).length:Int)<((fr l ns (oth (ns.getLastD 0))).length:Int):=bM _ (by omega)
    obtain⟨x,_,tY,hat⟩:=HZ r0 r1
    refine⟨_,rfl,q,_,rfl,.inl (SqL.of hq7),_,_,rfl,rfl,?_,q,_,_,V.int x,rfl,rfl,SqL.of hq7,?_,t,_,_,rfl,rfl,s7 _ _ (S6 _ _ ht3),?_,?_⟩
    ·show(0:Int)<(((fr l ns (oth (ns.getLastD 0))).map V.int).length:Int)
     rw[aa];omega
    ·show atI _ (m%(((fr l ns (oth (ns.getLastD 0))).map V.int).length:Int))=_
     rw[aa];exact hat
    ·rw[aa];exact jf (by omega)
    refine⟨ns ++ [x],_,_,_,rfl,fk.upd (S3.trans (S6.trans s7)) nt,?_,by simp,by rw[aU];show ns.length+1<=_;omega,T.snoc ok hne tY⟩
    rw[eZ,aX];rfl
   ·exact⟨ns,_,_,_,rfl,S3.trans (S6.trans s7),s7 _ _ (S6 _ _ ht3),hne,by omega,T⟩
  rintro σ H3 ⟨ns,x4,x5,x6,rfl,S3,ht3,hne,nl,T⟩
  refine⟨_,rfl,k t ns _ S3 nt ht3 hne ?_ T⟩
  have h:ns.length<=(c/100%n).toNat+1:=nl
  omega
theorem xX (F:Fn K mg "_law_moves" j8 ["_law_line_here","_law_train_here"] f fd)(fI:Fn K mg "_law_other" jm ["_law_end"] f1 fd1)(fP:Fn K mg "_law_joined" iQ ["_law_line_here","_law_end"] f2 fd2)
  (B:Bl mg):fm P w K mg base CX0 2 f fd ["_law_line_here","_law_train_here"] (uo K):=by
 have iO:fm P w K mg base CX0 1 f1 fd1 ["_law_end"] ki:=lY fI
 have jE:fm P w K mg base CX0 1 f2 fd2 ["_law_line_here","_law_end"] (pX K):=nj fP B
 refine F.F.ok ko (λvs H Q E h=>?_) (λcdv A outer s H vs Q E hr h=>?_)
 ·obtain⟨v,u,l,ns,rfl,_⟩:=h;rfl
 ·obtain⟨v,u,l,ns,rfl,hv,hu,ok,hnp,hne,hz,k⟩:=h
  obtain⟨a,rfl,hS⟩:=kF.mp hu
  refine⟨_,(fb (uE (i:=3) ko.nd rfl rfl (gg (pv 1)) rfl pM (.name (by decide)) (λ_ _ _ _=>(ft (i:=0) pM.nd rfl (Or.inl rfl))) (λ_ _ _ _=>gZ) (λ_ _ _ _=>(fo gH (pv 0) fc)))
 (fb (fQ (i:=4) ko.nd rfl (Or.inl rfl) (gB eX))
 (fb (jq bH rfl (gg (fj jE (hr.mono (by decide)) rfl fP.m fP.F.kp fP.b .nil fM (eW (pv 0) (eW (fj iO (hr.mono (by decide)) rfl fI.m fI.F.kp fI.b .nil fM (eW (gr gh (pv 1) (qZ nV fc) (λ_ _=>rfl)) eX)) eX)))) (ft (i:=2) ko.nd rfl (Or.inl rfl))
 (fe (gf (gG (mf hr.units) (fo gH (pv 2) fc) (pv 3) (by with_unfolding_all rfl))
 (fe (kC (lQ bJ cG cF kU (pv 4) (eW (iE (eW (iE (eW fw (eW (pv 2) eX))) (eW (fo oo (kD mS (pv 1) (lr fc) lX) (gB (eW (pv 2) eX))) eX))) eX)))) fD)))
 (fb (jq bH rfl (gg (fj jE (hr.mono (by decide)) rfl fP.m fP.F.kp fP.b .nil fM (eW (pv 0) (eW (gr gh (pv 1) fc (λ_ _=>rfl)) eX)))) (ft (i:=2) ko.nd rfl (Or.inl rfl))
 (fe (gf (gG (mf hr.units) (fo gH (pv 2) fc) (pv 3) (by with_unfolding_all rfl))
 (fe (kC (lQ bJ cG cF kU (pv 4) (eW (iE (eW (iE (eW fw (eW (pv 2) eX))) (eW (fo oo (gB (eW (fj iO (hr.mono (by decide)) rfl fI.m fI.F.kp fI.b .nil fM (eW (pv 2) eX)) eX)) (kD mS (pv 1) lX (lr (qZ nV fc)))) eX))) eX)))) fD)))
 (fe (fz (pv 4))))))),?_⟩
  refine⟨_,rfl,a,rfl,⟨_,hS⟩,λpc n0=>lZ ns (λ_=>true) (λe=>V.int (e/2)) n0 hS (by rw[aa]) (by rw[aa];exact gv (by omega)) ?_ ?_⟩
  ·intro i x d H' hx hd sm P1 P0 k1 k0
   rw[aq,hd]at hx
   cases hx
   refine iY ?_
   exact⟨_,rfl,_,_,rfl,rfl,⟨by decide,by decide⟩,k1 rfl⟩
  rw[iH]
  have e1:(ns.map λe=>V.int (e/2))=(ns.map (· / 2)).map V.int:=by rw[br];rfl
  rw[e1]
  have s0:fk H (upd H pc (.lst ((ns.map (· / 2)).map V.int))):=eY n0
  have hpc:(upd H pc (.lst ((ns.map (· / 2)).map V.int))) pc=some (.lst ((ns.map (· / 2)).map V.int)):=eZ
  generalize hH0:upd H pc (.lst ((ns.map (· / 2)).map V.int))=H0 at s0 hpc
  refine⟨aP _,λt ht=>?_⟩
  have s1:fk H0 (upd H0 t (.lst [])):=eY ht
  have S1:fk H (upd H0 t (.lst [])):=s0.trans s1
  refine⟨_,rfl,_,rfl,_,rfl,a,_,_,_,rfl,rfl,S1.seq hS,TL.qg hne,_,rfl,v,l,_,rfl,Da.same S1 hv,ok,hnp,λp H2 s2 hp hp2=>?_⟩
  have nt:p≠t:=(fu eZ hp).symm
  have NM:=vh ok (oth (ns.getLastD 0))
  have NO:=vh ok (ns.headD 0)
  refine⟨p,rfl,⟨_,SqL.of hp2⟩,kW (K:=K) (a:=p) (xs:=(jn l.2 (oth (ns.getLastD 0))).map V.int) (λi σ H3=>∃ (vs:List V) (x:Option V),σ = [some v,some (.ref a),x,some (.ref pc),some (.ref t)]/\fk H0 H3/\H3 p=some (.lst ((jn l.2 (oth (ns.getLastD 0))).map V.int))/\H3 t=some (.lst vs)/\
    Dgs (Lf H0 H3 t) (SqT K H3) (((((jn l.2 (oth (ns.getLastD 0))).take i).filter λt=> !decide (t/2∈ns.map (· / 2))).map (onM ns)).map dMv) vs)
   ⟨[],none,rfl,s1.trans s2,hp2,s2 _ _ eZ,gQ.mpr rfl⟩ (λi σ H3 _ ⟨_,_,_,_,h,_⟩=>SqL.of h) ?_ ?_⟩
  ·rintro i y σ H3 N R Bq kN kR hi ⟨vs,x,rfl,S3,hp3,ht3,D⟩
   rw[aq]at hi
   cases q:(jn l.2 (oth (ns.getLastD 0)))[i]? with
   |none=>rw[q]at hi;cases hi
   |some e=>
    rw[q]at hi
    cases hi
    have hil:i<(jn l.2 (oth (ns.getLastD 0))).length:=(af.mp q).1
    have st:=take_succ_filter (λt=> !decide (t/2∈ns.map (· / 2))) _ i e q
    refine⟨_,rfl,_,_,rfl,rfl,⟨by decide,by decide⟩,_,rfl,_,.int (e/2),gR (S3 _ _ hpc),gD.mpr rfl,sd _,p7 _,_,rfl,?_⟩
    rw[xo]
    refine fY (c:=(!decide (e/2∈ns.map (· / 2)))=true) (λhc=>?_) (λhc=>?_)
    ·refine⟨_,rfl,.inl ⟨rfl,_,SqL.of ht3⟩,_,rfl,by show 2<=sizeLine;decide,λp1 n1=>?_⟩
     refine⟨_,rfl,_,rfl,a,_,rfl,((s0.trans S3).trans (eY n1)).seq hS,λp2 n2=>?_⟩
     refine⟨_,rfl,by show 1<=sizeLine;decide,λp3 n3=>?_⟩
     rw[rA]at n3 ⊢
     refine⟨p2,p3,_,_,rfl,rfl,by rw[fE (fu eZ n3),eZ],eZ,?_,λp4 n4=>?_⟩
     ·refine bZ (gv ?_)
      rw[aa,bC]
      show ns.length-1+1<=1000
      omega
     refine⟨by show 2<=sizeLine;decide,λp5 n5=>?_⟩
     have S5:fk H3 _:=(eY n1).trans ((eY n2).trans ((eY n3).trans ((eY n4).trans (eY (o:=.tup [.ref p1,.ref p4]) n5))))
     have lv:vs.length<=160:=by
      rw[D.length,aa,aa]
      refine bq (bS _ _) ?_
      rw[aN];omega
     refine⟨t,vs,_,rfl,rfl,S5 _ _ ht3,gv (by omega),?_⟩
     have g1:fk (upd H3 p1 (.tup [.str "on",.int e])) _:=(eY n2).trans ((eY n3).trans ((eY n4).trans (eY (o:=.tup [.ref p1,.ref p4]) n5)))
     obtain⟨r1,r2,r3⟩:=pZ (w:= "on") (e:=e) (xs:=ns.drop 1 ++ [e]) S3 ht ht3 D S5 (g1 _ _ eZ) (fk.free ((eY n1).trans ((eY n2).trans (eY n3))) n4) (by rw[fE (fu eZ n5),eZ,aX];rfl) eZ
     refine kN _ _ ⟨_,_,rfl,r1,?_,r2,?_⟩
     ·rw[fE nt];exact S5 _ _ hp3
     ·rw[st,aA hc,aX];exact r3
    ·refine kN _ _ ⟨vs,_,rfl,S3,hp3,ht3,?_⟩
     rw[st,au hc,bN];exact D
  rintro σ H3 ⟨vs,x,rfl,S3,hp3,ht3,D⟩
  rw[aa,bW]at D
  refine⟨_,rfl,_,rfl,a,_,_,_,rfl,rfl,(s0.trans S3).seq hS,Ag hne,v,l,_,rfl,Da.same (s0.trans S3) hv,ok,hnp,λp' H4 s4 hp' hp4=>?_⟩
  have nt':p'≠t:=(fu ht3 hp').symm
  have D4:Dgs (Lf H0 H4 t) (SqT K H4) (((fr l ns (oth (ns.getLastD 0))).map (onM ns)).map dMv) vs:=Dgs.mono (λa us ⟨h1,h2,h3⟩=>⟨s4 _ _ h1,h2,h3⟩) (λa us h=>gT s4 h) D
  have Si:=vB ok ns (oth (ns.getLastD 0))
  refine⟨p',rfl,⟨_,SqL.of hp4⟩,kW (K:=K) (a:=p') (xs:=(jn l.2 (ns.headD 0)).map V.int) (λi σ H3=>∃ (vs:List V) (x:Option V),σ = [some v,some (.ref a),x,some (.ref pc),some (.ref t)]/\fk H0 H3/\H3 p'=some (.lst ((jn l.2 (ns.headD 0)).map V.int))/\H3 t=some (.lst vs)/\
    Dgs (Lf H0 H3 t) (SqT K H3) (((fr l ns (oth (ns.getLastD 0))).map (onM ns)++(((jn l.2 (ns.headD 0)).take i).filter λt=> !decide (t/2∈ns.map (· / 2))).map (vJ ns)).map dMv) vs)
   ⟨vs,x,rfl,S3.trans s4,hp4,s4 _ _ ht3,by simpa using D4⟩ (λi σ H3 _ ⟨_,_,_,_,h,_⟩=>SqL.of h) ?_ ?_⟩
  ·rintro i y σ H3 N R Bq kN kR hi ⟨vs,x,rfl,S3,hp3,ht3,D⟩
   rw[aq]at hi
   cases q:(jn l.2 (ns.headD 0))[i]? with
   |none=>rw[q]at hi;cases hi
   |some e=>
    rw[q]at hi
    cases hi
    have hil:i<(jn l.2 (ns.headD 0)).length:=(af.mp q).1
    have st:=take_succ_filter (λt=> !decide (t/2∈ns.map (· / 2))) _ i e q
    refine⟨_,rfl,_,_,rfl,rfl,⟨by decide,by decide⟩,_,rfl,_,.int (e/2),gR (S3 _ _ hpc),gD.mpr rfl,sd _,p7 _,_,rfl,?_⟩
    rw[xo]
    refine fY (c:=(!decide (e/2∈ns.map (· / 2)))=true) (λhc=>?_) (λhc=>?_)
    ·refine⟨_,rfl,.inl ⟨rfl,_,SqL.of ht3⟩,_,rfl,by show 2<=sizeLine;decide,λp1 n1=>?_⟩
     refine⟨_,rfl,e,rfl,by show 1<=sizeLine;decide,λp2 n2=>?_⟩
     refine⟨_,rfl,_,rfl,_,rfl,a,_,rfl,((s0.trans S3).trans ((eY n1).trans (eY n2))).seq hS,λp3 n3=>?_⟩
     have ec:oZ (ns.map V.int) none (some (-1))=ns.dropLast.map V.int:=zY ns
     refine⟨p2,p3,_,_,rfl,rfl,by rw[fE (fu eZ n3),eZ],eZ,?_,λp4 n4=>?_⟩
     ·refine bZ (gv ?_)
      show 1+(oZ (ns.map V.int) none (some (-1))).length<=1000
      rw[ec,aa,cj]
      omega
     refine⟨by show 2<=sizeLine;decide,λp5 n5=>?_⟩
     have S5:fk H3 _:=(eY n1).trans ((eY n2).trans ((eY n3).trans ((eY n4).trans (eY (o:=.tup [.ref p1,.ref p4]) n5))))
     have lv:vs.length<=320:=by
      rw[D.length,aa,aU,aa,aa]
      have:=bS (λt=> !decide (t/2∈ns.map (· / 2))) ((jn l.2 (ns.headD 0)).take i)
      rw[aN]at this
      omega
     refine⟨t,vs,_,rfl,rfl,S5 _ _ ht3,gv (by omega),?_⟩
     have g1:fk (upd H3 p1 (.tup [.str "back",.int e])) _:=(eY n2).trans ((eY n3).trans ((eY n4).trans (eY (o:=.tup [.ref p1,.ref p4]) n5)))
     obtain⟨r1,r2,r3⟩:=pZ (w:= "back") (e:=e) (xs:=oth e::ns.dropLast) S3 ht ht3 D S5 (g1 _ _ eZ) (fk.free ((eY n1).trans ((eY n2).trans (eY n3))) n4) (by
      rw[fE (fu eZ n5),eZ]
      show some (HO.lst ([V.int (oth e)]++oZ (ns.map V.int) none (some (-1))))=_
      rw[ec];rfl) eZ
     refine kN _ _ ⟨_,_,rfl,r1,?_,r2,?_⟩
     ·rw[fE nt'];exact S5 _ _ hp3
     ·rw[st,aA hc,aX (f:=vJ ns),<-aW];exact r3
    ·refine kN _ _ ⟨vs,_,rfl,S3,hp3,ht3,?_⟩
     rw[st,au hc,bN];exact D
  rintro σ H3 ⟨vs,x,rfl,S3,hp3,ht3,D⟩
  rw[aa,bW]at D
  exact⟨_,rfl,k t vs H3 (s0.trans S3) (fk.free s0 ht) ht3 (Dgs.mono (λa us ⟨h1,h2,h3⟩=>⟨h1,fk.free s0 h2,h3⟩) (λ_ _ h=>h) D)⟩
end
noncomputable def qv (K:PySem.W.Frag):Sp:=λvs H Q _=>∃ (v:V) (l:Ln) (e:Int),vs = [v,.int e]/\Da K H (dL l) v/\ij l/\qh H (jn l.2 e) Q
noncomputable def qP (K:PySem.W.Frag):Sp:=λvs H Q _=>∃ (v:V) (ns:List Int),vs = [v]/\Da K H (dI ns) v/\ns.length<=1000/\qh H (ns.reverse.map oth) Q
noncomputable def Bj (K:PySem.W.Frag):Sp:=λvs H Q _=>∃ (v u:V) (l:Int×List (Int×Int)) (ns:List Int) (e:Int),vs = [v,u,.int e]/\Da K H (dL l) v/\Da K H (dI ns) u/\ij l/\ns.length<=1000/\qh H (fr l ns e) Q
noncomputable def rQ (K:PySem.W.Frag):Sp:=λvs H Q _=>∃ (v u:V) (l:Ln) (ns:List Int),vs = [v,u]/\Da K H (dL l) v/\Da K H (dI ns) u/\ij l/\ns≠ []/\ns.length<=900/\Aj K H (mvs l ns) Q
noncomputable abbrev mC:Stmt:=top 17
theorem pY:fC ["line","end","joints","above","below"] ["line","end"] (fh mC):=⟨rfl,rfl,rfl,by decide +kernel,rfl,by decide +kernel,by decide +kernel⟩
theorem pO:gq (fh mC) ["line","end","joints","above","below"] {kind:=.function,names:=[(Str.ofString ".0",.local),(Str.ofString "low",.local),(Str.ofString "high",.local),(Str.ofString "end",.free)],isGenerator:=false,isCoroutine:=false,more:=[]} ["low","high","end"] 2 [none,none,some 1]:=⟨rfl,by decide +kernel,by decide +kernel,by decide +kernel,rfl,by decide +kernel,rfl,by decide +kernel⟩
theorem pN:gq (fh mC) ["line","end","joints","above","below"] {kind:=.function,names:=[(Str.ofString ".0",.local),(Str.ofString "low",.local),(Str.ofString "high",.local),(Str.ofString "end",.free)],isGenerator:=false,isCoroutine:=false,more:=[]} ["low","high","end"] 2 [none,none,some 1]:=⟨rfl,by decide +kernel,by decide +kernel,by decide +kernel,rfl,by decide +kernel,rfl,by decide +kernel⟩
noncomputable abbrev pb:Stmt:=top 20
theorem Ck:fC ["train"] ["train"] (fh pb):=⟨rfl,rfl,rfl,by decide +kernel,rfl,by decide +kernel,by decide +kernel⟩
theorem tK:gq (fh pb) ["train"] {kind:=.function,names:=[(Str.ofString ".0",.local),(Str.ofString "end",.local),(Str.ofString "other_end",.globalImplicit)],isGenerator:=false,isCoroutine:=false,more:=[]} ["end"] 1 [none]:=⟨rfl,by decide +kernel,by decide +kernel,by decide +kernel,rfl,by decide +kernel,rfl,by decide +kernel⟩
noncomputable abbrev j9:Stmt:=top 21
theorem qV:fC ["line","train","end","pieces"] ["line","train","end"] (fh j9):=⟨rfl,rfl,rfl,by decide +kernel,rfl,by decide +kernel,by decide +kernel⟩
theorem pQ:gq (fh j9) ["line","train","end","pieces"] {kind:=.function,names:=[(Str.ofString ".0",.local),(Str.ofString "own",.local),(Str.ofString "piece_of",.globalImplicit)],isGenerator:=false,isCoroutine:=false,more:=[]} ["own"] 1 [none]:=⟨rfl,by decide +kernel,by decide +kernel,by decide +kernel,rfl,by decide +kernel,rfl,by decide +kernel⟩
theorem pP:gq (fh j9) ["line","train","end","pieces"] {kind:=.function,names:=[(Str.ofString ".0",.local),(Str.ofString "there",.local),(Str.ofString "piece_of",.globalImplicit),(Str.ofString "pieces",.free)],isGenerator:=false,isCoroutine:=false,more:=[]} ["there","pieces"] 1 [none,some 3]:=⟨rfl,by decide +kernel,by decide +kernel,by decide +kernel,rfl,by decide +kernel,rfl,by decide +kernel⟩
noncomputable abbrev mz:Stmt:=top 22
theorem mT:fC ["line","train","told","end"] ["line","train"] (fh mz):=⟨rfl,rfl,rfl,by decide +kernel,rfl,by decide +kernel,by decide +kernel⟩
section
variable {P:Program}{w:World}{K:PySem.W.Frag}{mg:Str->Option Value}{base:Heap}{f:Addr}{fd:FuncData}{D c1 c2 c3 c4 c5 c6 c7:Addr}{t1 t2 t3 t4:Tok}
theorem wR (F:Fn K mg "joined" mC ["line","end"] f fd)(B:Bl mg):fm P w K mg base CX0 1 f fd ["line","end"] (qv K):=by
 refine F.F.ok pY (λvs H Q E h=>?_) (λcdv A outer s H vs Q E hr h=>?_)
 ·obtain⟨v,l,e,rfl,_⟩:=h;rfl
 ·obtain⟨v,l,e,rfl,hv,ok,k⟩:=h
  obtain⟨a,b,rfl,ht,us,hl,hq⟩:=oy hv
  have hlen:=rz hq
  have hz:us.length<sizeLine:=gv (by rw[hlen];have:=ok.len;omega)
  refine⟨_,(fb (fQ (i:=2) pY.nd rfl (Or.inl rfl) (gr lI (pv 0) fc (λ_ _=>rfl)))
 (fb (uE (i:=3) pY.nd rfl rfl (gg (pv 2)) rfl pO (.tup (.cons (.name (by decide)) (.cons (.name (by decide)) .nil))) (λ_ _ _ _=>(jr (n:=2) rfl (fH (ft (i:=0) pO.nd rfl (Or.inl rfl)) (fH (ft (i:=1) pO.nd rfl (Or.inl rfl)) g9)))) (λ_ _ _ _=>(nJ (gw (qy (pv 0) (pv 2))))) (λ_ _ _ _=>(pv 1)))
 (fb (uE (i:=4) pY.nd rfl rfl (gg (pv 2)) rfl pN (.tup (.cons (.name (by decide)) (.cons (.name (by decide)) .nil))) (λ_ _ _ _=>(jr (n:=2) rfl (fH (ft (i:=0) pN.nd rfl (Or.inl rfl)) (fH (ft (i:=1) pN.nd rfl (Or.inl rfl)) g9)))) (λ_ _ _ _=>(nJ (gw (qy (pv 1) (pv 2))))) (λ_ _ _ _=>(pv 0)))
 (fe (fz (gd (rC rfl) rfl B.sorted boot_sorted (eW (fo oo (pv 4) (pv 3)) eX))))))),?_⟩
  refine⟨_,rfl,a,_,_,_,rfl,rfl,ht,rfl,?_⟩
  refine⟨_,rfl,b,rfl,⟨us,hl⟩,λl1 n1=>lZ l.2 (λp=>decide (p.1=e)) (λp=>V.int p.2) n1 hl hlen hz ?_ ?_⟩
  ·intro i x d H' hx hd sm P1 P0 k1 k0
   obtain⟨ad,p,e1,rfl,hp⟩:=rq (Das.same sm hq) hx
   rw[hd]at e1;cases e1
   refine⟨ad,_,rfl,hp,rfl,_,_,rfl,_,_,rfl,rfl,_,rfl,_,rfl,_,_,rfl,rfl,_,rfl,fY (λh=>⟨_,rfl,k1 h⟩) (λh=>k0 (by simpa using h))⟩
  have s1:fk H (upd H l1 (.lst (above l.2 e |>.map V.int))):=eY n1
  have e1:((l.2.filter λp=>decide (p.1=e)).map λp=>V.int p.2)=(above l.2 e).map V.int:=by unfold above;rw[br];rfl
  rw[e1]
  refine⟨_,rfl,b,rfl,⟨us,s1.seq hl⟩,λl2 n2=>lZ l.2 (λp=>decide (p.2=e)) (λp=>V.int p.1) n2 (s1.seq hl) hlen hz ?_ ?_⟩
  ·intro i x d H' hx hd sm P1 P0 k1 k0
   obtain⟨ad,p,e1,rfl,hp⟩:=rq (Das.same (s1.trans sm) hq) hx
   rw[hd]at e1;cases e1
   refine⟨ad,_,rfl,hp,rfl,_,_,rfl,_,_,rfl,rfl,_,rfl,_,rfl,_,_,rfl,rfl,_,rfl,fY (λh=>⟨_,rfl,k1 h⟩) (λh=>k0 (by simpa using h))⟩
  have e2:((l.2.filter λp=>decide (p.2=e)).map λp=>V.int p.1)=(below l.2 e).map V.int:=by unfold below;rw[br];rfl
  rw[e2]
  have g1:(upd (upd H l1 (.lst (above l.2 e |>.map V.int))) l2 (.lst (below l.2 e |>.map V.int))) l1=some (.lst (above l.2 e |>.map V.int)):=by
   rw[fE (fu eZ n2),eZ]
  have hb:=xn ok e
  have s2:fk H (upd (upd H l1 (.lst (above l.2 e |>.map V.int))) l2 (.lst (below l.2 e |>.map V.int))):=s1.trans (eY n2)
  refine⟨_,rfl,_,rfl,l2,l1,_,_,rfl,rfl,eZ,g1,bZ (gv (by rw[aa,aa];omega)),λp hp=>?_⟩
  refine⟨p,below l.2 e++above l.2 e,rfl,SqL.of (by rw[eZ,aX]),(by rw[aU];omega),λp2 hp2=>?_⟩
  refine k p2 _ (s2.trans ((eY hp).trans (eY hp2))) (fk.free (s2.trans (eY hp)) hp2) eZ
theorem Cu (F:Fn K mg "turned" pb ["train"] f fd)(B:Bl mg)(fT:Fn K mg "other_end" jZ ["end"] f1 fd1):fm P w K mg base CX0 2 f fd ["train"] (qP K):=by
 have kd:fm P w K mg base CX0 1 f1 fd1 ["end"] ki:=oq fT
 refine F.F.ok Ck (λvs H Q E h=>?_) (λcdv A outer s H vs Q E hr h=>?_)
 ·obtain⟨v,l,rfl,_⟩:=h;rfl
 ·obtain⟨v,ns,rfl,hv,hz,k⟩:=h
  obtain⟨a,rfl,hS⟩:=kF.mp hv
  refine⟨_,(fe (fz (nL (Ha rfl B.reversed (eW (pv 0) eX)) rfl tK (.name (by decide)) (λ_ _ _ _=>(ft (i:=0) tK.nd rfl (Or.inl rfl))) (λ_ _ _ _=>gZ) (λ_ _ _ _=>(fj kd (hr.mono (by decide)) rfl fT.m fT.F.kp fT.b .nil fM (eW (pv 0) eX)))))),?_⟩
  refine⟨_,rfl,a,_,rfl,hS,λl1 n1=>zJ (HA hS) ns.reverse (λ_=>true) (λe=>V.int (oth e)) n1 (by rw[aa,b9]) (by rw[aa];exact gv hz) ?_ ?_⟩
  ·intro i x d H' hx hd sm P1 P0 k1 k0
   rw[<-List.map_reverse,aq,hd]at hx
   cases hx
   refine iY ?_
   exact⟨_,rfl,d,rfl,k1 rfl⟩
  rw[iH]
  refine k l1 _ (eY n1) n1 ?_
  rw[eZ,br];rfl
theorem xZ (F:Fn K mg "free_ends" j9 ["line","train","end"] f fd)(B:Bl mg)(fK:Fn K mg "piece_of" jU ["end"] f1 fd1)(i6:Fn K mg "joined" mC ["line","end"] f2 fd2):
  fm P w K mg base CX0 2 f fd ["line","train","end"] (Bj K):=by
 have iV:fm P w K mg base CX0 1 f1 fd1 ["end"] qR:=mY fK
 have vM:fm P w K mg base CX0 1 f2 fd2 ["line","end"] (qv K):=wR i6 B
 refine F.F.ok qV (λvs H Q E h=>?_) (λcdv A outer s H vs Q E hr h=>?_)
 ·obtain⟨v,u,l,ns,e,rfl,_⟩:=h;rfl
 ·obtain⟨v,u,l,ns,e,rfl,hv,hu,ok,hz,k⟩:=h
  obtain⟨a,rfl,hS⟩:=kF.mp hu
  refine⟨_,(fb (fQ (i:=3) qV.nd rfl (Or.inr rfl) (nL (gg (pv 1)) rfl pQ (.name (by decide)) (λ_ _ _ _=>(ft (i:=0) pQ.nd rfl (Or.inl rfl))) (λ_ _ _ _=>gZ) (λ_ _ _ _=>(fj iV (hr.mono (by decide)) rfl fK.m fK.F.kp fK.b .nil fM (eW (pv 0) eX)))))
 (fe (fz (nL (gg (fj vM (hr.mono (by decide)) rfl i6.m i6.F.kp i6.b .nil fM (eW (pv 0) (eW (pv 2) eX)))) rfl pP (.name (by decide)) (λ_ _ _ _=>(ft (i:=0) pP.nd rfl (Or.inl rfl))) (λ_ _ _ _=>(nJ (gG (uN (K:=K) rfl hr.units) (fj iV (hr.mono (by decide)) rfl fK.m fK.F.kp fK.b .nil fM (eW (pv 0) eX)) (pv 1) (by with_unfolding_all rfl)))) (λ_ _ _ _=>(pv 0)))))),?_⟩
  refine⟨_,rfl,a,rfl,⟨_,hS⟩,λl1 n1=>lZ ns (λ_=>true) (λe=>V.int (e/2)) n1 hS (by rw[aa]) (by rw[aa];exact gv hz) ?_ ?_⟩
  ·intro i x d H' hx hd sm P1 P0 k1 k0
   rw[aq,hd]at hx
   cases hx
   refine iY ?_
   exact⟨_,rfl,d,rfl,k1 rfl⟩
  rw[iH]
  have e1:(ns.map λe=>V.int (e/2))=(ns.map (· / 2)).map V.int:=by rw[br];rfl
  rw[e1]
  have s1:fk H (upd H l1 (.lst ((ns.map (· / 2)).map V.int))):=eY n1
  refine⟨_,rfl,_,rfl,v,l,e,rfl,Da.same s1 hv,ok,λp H2 s2 hp hp2=>⟨p,rfl,⟨_,SqL.of hp2⟩,λl2 n2=>lZ (jn l.2 e) (λt=> !decide (t/2∈ns.map (· / 2))) (λt=>V.int t) n2 (SqL.of hp2) (by rw[aa]) ?_ ?_ ?_⟩⟩
  ·rw[aa]
   refine gv ?_
   unfold jn
   rw[nY,aU]
   have:=xn ok e
   omega
  ·intro i x d H' hx hd sm P1 P0 k1 k0
   rw[aq,hd]at hx
   cases hx
   have hD:Da K H' (.list ((ns.map (· / 2)).map .int)) (.ref l1):=Da.same (s2.trans sm) (gR eZ)
   refine⟨_,rfl,d,rfl,_,rfl,_,.int (d/2),hD,gD.mpr rfl,sd _,p7 _,_,rfl,?_⟩
   rw[xo]
   exact fY (λh=>⟨_,rfl,k1 h⟩) (λh=>k0 (by simpa using h))
  exact k l2 _ ((s1.trans s2).trans (eY n2)) (fk.free (s1.trans s2) n2) eZ
theorem zp (F:Fn K mg "moves_of" mz ["line","train"] f fd)(fT:Fn K mg "other_end" jZ ["end"] f1 fd1)(iD:Fn K mg "free_ends" j9 ["line","train","end"] f2 fd2)
  (m8:fm P w K mg base CX0 2 f2 fd2 ["line","train","end"] (Bj K)):fm P w K mg base CX0 3 f fd ["line","train"] (rQ K):=by
 have kd:fm P w K mg base CX0 1 f1 fd1 ["end"] ki:=oq fT
 refine F.F.ok mT (λvs H Q E h=>?_) (λcdv A outer s H vs Q E hr h=>?_)
 ·obtain⟨v,u,l,ns,rfl,_⟩:=h;rfl
 ·obtain⟨v,u,l,ns,rfl,hv,hu,ok,hne,hz,k⟩:=h
  obtain⟨a,rfl,hS⟩:=kF.mp hu
  refine⟨_,(fb (fQ (i:=2) mT.nd rfl (Or.inl rfl) (gB eX))
 (fb (jq bH rfl (gg (fj m8 (hr.mono (by decide)) rfl iD.m iD.F.kp iD.b .nil fM (eW (pv 0) (eW (pv 1) (eW (fj kd (hr.mono (by decide)) rfl fT.m fT.F.kp fT.b .nil fM (eW (gr gh (pv 1) (qZ nV fc) (λ_ _=>rfl)) eX)) eX))))) (ft (i:=3) mT.nd rfl (Or.inl rfl))
 (fe (kC (lQ bJ cG cF kU (pv 2) (eW (iE (eW (iE (eW fw (eW (pv 3) eX))) (eW (fo oo (kD mS (pv 1) (lr fc) lX) (gB (eW (pv 3) eX))) eX))) eX)))))
 (fb (jq bH rfl (gg (fj m8 (hr.mono (by decide)) rfl iD.m iD.F.kp iD.b .nil fM (eW (pv 0) (eW (pv 1) (eW (gr gh (pv 1) fc (λ_ _=>rfl)) eX))))) (ft (i:=3) mT.nd rfl (Or.inl rfl))
 (fe (kC (lQ bJ cG cF kU (pv 2) (eW (iE (eW (iE (eW fw (eW (pv 3) eX))) (eW (fo oo (gB (eW (fj kd (hr.mono (by decide)) rfl fT.m fT.F.kp fT.b .nil fM (eW (pv 3) eX)) eX)) (kD mS (pv 1) lX (lr (qZ nV fc)))) eX))) eX)))))
 (fe (fz (pv 2)))))),?_⟩
  refine⟨aP _,λt ht=>?_⟩
  have s1:fk H (upd H t (.lst [])):=eY ht
  refine⟨_,rfl,_,rfl,_,rfl,_,rfl,a,_,_,_,rfl,rfl,s1.seq hS,TL.qg hne,_,rfl,v,_,l,ns,_,rfl,Da.same s1 hv,Da.same s1 hu,ok,by omega,λp H2 s2 hp hp2=>?_⟩
  have nt:p≠t:=(fu eZ hp).symm
  have NM:=vB ok ns (oth (ns.getLastD 0))
  have NO:=vB ok ns (ns.headD 0)
  refine⟨p,rfl,⟨_,SqL.of hp2⟩,kW (K:=K) (a:=p) (xs:=(fr l ns (oth (ns.getLastD 0))).map V.int) (λi σ H3=>∃ (vs:List V) (x:Option V),σ = [some v,some (.ref a),some (.ref t),x]/\fk H H3/\H3 p=some (.lst ((fr l ns (oth (ns.getLastD 0))).map V.int))/\H3 t=some (.lst vs)/\
    Dgs (Lf H H3 t) (SqT K H3) ((((fr l ns (oth (ns.getLastD 0))).take i).map (onM ns)).map dMv) vs)
   ⟨[],none,rfl,s1.trans s2,hp2,s2 _ _ eZ,gQ.mpr rfl⟩ (λi σ H3 _ ⟨_,_,_,_,h,_⟩=>SqL.of h) ?_ ?_⟩
  ·rintro i y σ H3 N R Bq kN kR hi ⟨vs,x,rfl,S3,hp3,ht3,D⟩
   rw[aq]at hi
   cases q:(fr l ns (oth (ns.getLastD 0)))[i]? with
   |none=>rw[q]at hi;cases hi
   |some e=>
    rw[q]at hi
    cases hi
    have hil:i<(fr l ns (oth (ns.getLastD 0))).length:=(af.mp q).1
    refine⟨_,rfl,.inl ⟨rfl,_,SqL.of ht3⟩,_,rfl,by show 2<=sizeLine;decide,λp1 n1=>?_⟩
    refine⟨_,rfl,_,rfl,a,_,rfl,(S3.trans (eY n1)).seq hS,λp2 n2=>?_⟩
    refine⟨_,rfl,by show 1<=sizeLine;decide,λp3 n3=>?_⟩
    rw[rA]at n3 ⊢
    refine⟨p2,p3,_,_,rfl,rfl,by rw[fE (fu eZ n3),eZ],eZ,?_,λp4 n4=>?_⟩
    ·refine bZ (gv ?_)
     rw[aa,bC]
     show ns.length-1+1<=1000
     omega
    refine⟨by show 2<=sizeLine;decide,λp5 n5=>?_⟩
    have S5:fk H3 _:=(eY n1).trans ((eY n2).trans ((eY n3).trans ((eY n4).trans (eY (o:=.tup [.ref p1,.ref p4]) n5))))
    have lv:vs.length<=160:=by rw[D.length,aa,aa,aN];omega
    refine⟨t,vs,_,rfl,rfl,S5 _ _ ht3,gv (by omega),?_⟩
    have g1:fk (upd H3 p1 (.tup [.str "on",.int e])) _:=(eY n2).trans ((eY n3).trans ((eY n4).trans (eY (o:=.tup [.ref p1,.ref p4]) n5)))
    have:=pZ (w:= "on") (e:=e) (xs:=ns.drop 1 ++ [e]) S3 ht ht3 D S5 (g1 _ _ eZ) (fk.free ((eY n1).trans ((eY n2).trans (eY n3))) n4) (by rw[fE (fu eZ n5),eZ,aX];rfl) eZ
    obtain⟨r1,r2,r3⟩:=this
    refine kN _ _ ⟨_,_,rfl,r1,?_,r2,?_⟩
    ·rw[fE nt];exact S5 _ _ hp3
    ·rw[qm (onM ns) _ i e q];exact r3
  rintro σ H3 ⟨vs,x,rfl,S3,hp3,ht3,D⟩
  rw[aa,bW]at D
  refine⟨_,rfl,_,rfl,_,rfl,a,_,_,_,rfl,rfl,S3.seq hS,Ag hne,v,_,l,ns,_,rfl,Da.same S3 hv,Da.same S3 hu,ok,by omega,λp' H4 s4 hp' hp4=>?_⟩
  have nt':p'≠t:=(fu ht3 hp').symm
  have D4:Dgs (Lf H H4 t) (SqT K H4) (((fr l ns (oth (ns.getLastD 0))).map (onM ns)).map dMv) vs:=Dgs.mono (λa us ⟨h1,h2,h3⟩=>⟨s4 _ _ h1,h2,h3⟩) (λa us h=>gT s4 h) D
  refine⟨p',rfl,⟨_,SqL.of hp4⟩,kW (K:=K) (a:=p') (xs:=(fr l ns (ns.headD 0)).map V.int) (λi σ H3=>∃ (vs:List V) (x:Option V),σ = [some v,some (.ref a),some (.ref t),x]/\fk H H3/\H3 p'=some (.lst ((fr l ns (ns.headD 0)).map V.int))/\H3 t=some (.lst vs)/\
    Dgs (Lf H H3 t) (SqT K H3) (((fr l ns (oth (ns.getLastD 0))).map (onM ns)++((fr l ns (ns.headD 0)).take i).map (vJ ns)).map dMv) vs)
   ⟨vs,x,rfl,S3.trans s4,hp4,s4 _ _ ht3,by simpa using D4⟩ (λi σ H3 _ ⟨_,_,_,_,h,_⟩=>SqL.of h) ?_ ?_⟩
  ·rintro i y σ H3 N R Bq kN kR hi ⟨vs,x,rfl,S3,hp3,ht3,D⟩
   rw[aq]at hi
   cases q:(fr l ns (ns.headD 0))[i]? with
   |none=>rw[q]at hi;cases hi
   |some e=>
    rw[q]at hi
    cases hi
    have hil:i<(fr l ns (ns.headD 0)).length:=(af.mp q).1
    refine⟨_,rfl,.inl ⟨rfl,_,SqL.of ht3⟩,_,rfl,by show 2<=sizeLine;decide,λp1 n1=>?_⟩
    refine⟨_,rfl,e,rfl,by show 1<=sizeLine;decide,λp2 n2=>?_⟩
    refine⟨_,rfl,_,rfl,_,rfl,a,_,rfl,(S3.trans ((eY n1).trans (eY n2))).seq hS,λp3 n3=>?_⟩
    have ec:oZ (ns.map V.int) none (some (-1))=ns.dropLast.map V.int:=zY ns
    refine⟨p2,p3,_,_,rfl,rfl,by rw[fE (fu eZ n3),eZ],eZ,?_,λp4 n4=>?_⟩
    ·refine bZ (gv ?_)
     show 1+(oZ (ns.map V.int) none (some (-1))).length<=1000
     rw[ec,aa,cj]
     omega
    refine⟨by show 2<=sizeLine;decide,λp5 n5=>?_⟩
    have S5:fk H3 _:=(eY n1).trans ((eY n2).trans ((eY n3).trans ((eY n4).trans (eY (o:=.tup [.ref p1,.ref p4]) n5))))
    have lv:vs.length<=320:=by rw[D.length,aa,aU,aa,aa,aN];omega
    refine⟨t,vs,_,rfl,rfl,S5 _ _ ht3,gv (by omega),?_⟩
    have g1:fk (upd H3 p1 (.tup [.str "back",.int e])) _:=(eY n2).trans ((eY n3).trans ((eY n4).trans (eY (o:=.tup [.ref p1,.ref p4]) n5)))
    have:=pZ (w:= "back") (e:=e) (xs:=oth e::ns.dropLast) S3 ht ht3 D S5 (g1 _ _ eZ) (fk.free ((eY n1).trans ((eY n2).trans (eY n3))) n4) (by
     rw[fE (fu eZ n5),eZ]
     show some (HO.lst ([V.int (oth e)]++oZ (ns.map V.int) none (some (-1))))=_
     rw[ec];rfl) eZ
    obtain⟨r1,r2,r3⟩:=this
    refine kN _ _ ⟨_,_,rfl,r1,?_,r2,?_⟩
    ·rw[fE nt'];exact S5 _ _ hp3
    ·rw[qm (vJ ns) _ i e q,<-aW];exact r3
  rintro σ H3 ⟨vs,x,rfl,S3,hp3,ht3,D⟩
  rw[aa,bW]at D
  exact⟨_,rfl,k t vs H3 S3 ht ht3 D⟩
end
structure Xr (K:PySem.W.Frag)(mg:Str->Option Value)(c2 c3:Addr):Prop where
 ji:Xc K mg "NoTrain" c2
 sQ:Xc K mg "NoMove" c3
noncomputable def xA (K:PySem.W.Frag)(C:Addr):Sp:=λvs H Q E=>∃ (v u m:V) (l:Int×List (Int×Int)) (ns:List Int) (k:Str×Int),vs = [v,u,m]/\Da K H (dL l) v/\Da K H (dI ns) u/\Da K H (dM k) m/\PyData.strOk k.1=true/\ij l/\ns≠ []/\ns.length<=900/\
 (∀ b,fnd (mvs l ns) k=some b->qh H b Q)/\(fnd (mvs l ns) k=none->∀ H',fk H H'->∀ e,H' e=none->E (.ref C) (some e) H')
noncomputable def isT (l:Ln)(ns:List Int):Prop:=ns≠ []/\o5 l ns
noncomputable def wI (K:PySem.W.Frag):Sp:=λvs H Q _=>∃ (v:V) (l:Int×List (Int×Int)) (e:Int),vs = [v,.int e]/\Da K H (dL l) v/\Q (.bl (decide (0<=e/\e<2*l.1))) H
noncomputable def yX (K:PySem.W.Frag)(C:Addr):Sp:=λvs H Q E=>∃ (v u:V) (l:Int×List (Int×Int)) (ns:List Int),vs = [v,u]/\Da K H (dL l) v/\Da K H (dI ns) u/\ij l/\ns.length<=900/\
 (isT l ns->∀ H',fk H H'->Q .non H')/\(¬isT l ns->∀ H',fk H H'->∀ e,H' e=none->E (.ref C) (some e) H')
noncomputable abbrev uy:Stmt:=top 23
theorem xI:fC ["line","train","move","own","behind"] ["line","train","move"] (fh uy):=⟨rfl,rfl,rfl,by decide +kernel,rfl,by decide +kernel,by decide +kernel⟩
noncomputable abbrev jM:Stmt:=top 19
theorem kx:fC ["line","train","end","following"] ["line","train"] (fh jM):=⟨rfl,rfl,rfl,by decide +kernel,rfl,by decide +kernel,by decide +kernel⟩
theorem nP:gq (fh jM) ["line","train","end","following"] {kind:=.function,names:=[(Str.ofString ".0",.local),(Str.ofString "end",.local),(Str.ofString "piece_of",.globalImplicit)],isGenerator:=false,isCoroutine:=false,more:=[]} ["end"] 1 [none]:=⟨rfl,by decide +kernel,by decide +kernel,by decide +kernel,rfl,by decide +kernel,rfl,by decide +kernel⟩
section
variable {P:Program}{w:World}{K:PySem.W.Frag}{mg:Str->Option Value}{base:Heap}{f:Addr}{fd:FuncData}{D c1 c2 c3 c4 c5 c6 c7:Addr}{t1 t2 t3 t4:Tok}
theorem FD (F:Fn K mg "done" uy ["line","train","move"] f fd)(XS:Xr K mg c2 c3)(ip:Fn K mg "moves_of" mz ["line","train"] f1 fd1)
  (kY:fm P w K mg base CX0 3 f1 fd1 ["line","train"] (rQ K)):fm P w K mg base (CXr P w base) 4 f fd ["line","train","move"] (xA K c3):=by
 refine F.F.okX xI (λvs H Q E h=>?_) (λcdv A outer s H vs Q E hr h=>?_)
 ·obtain⟨v,u,m,l,ns,k,rfl,_⟩:=h;rfl
 ·obtain⟨v,u,m,l,ns,k,rfl,hv,hu,hm,hk,ok,hne,hz,k1,k2⟩:=h
  refine⟨_,(fb (jq PassesOwn.leaving rfl (gg (fj kY (hr.mono (by decide)) rfl ip.m ip.F.kp ip.b .nil fM (eW (pv 0) (eW (pv 1) eX)))) (jr (n:=2) rfl (fH (ft (i:=3) xI.nd rfl (Or.inl rfl)) (fH (ft (i:=4) xI.nd rfl (Or.inl rfl)) g9)))
 (fe (gf (gG (uO hr.units) (pv 3) (pv 2) (iS _))
 (fe (fz (pv 4))) fD)))
 (fe (gN gu rfl rfl XS.sQ.m XS.sQ.q aG (eW fw eX)))),?_⟩
  refine⟨_,rfl,_,rfl,v,u,l,ns,rfl,hv,hu,ok,hne,hz,λp vs H1 s1 hp hp1 D1=>?_⟩
  refine⟨p,rfl,⟨_,SqL.of hp1⟩,pI (K:=K) (a:=p) (xs:=vs) (λi σ H3=>∃ (x3 x4:Option V),σ = [some v,some u,some m,x3,x4]/\H3=H1/\∀ j,j<i->∀ n,(mvs l ns)[j]? = some n->n.1≠k)
   ⟨none,none,rfl,rfl,λj hj=>absurd hj (Nat.not_lt_zero j)⟩ (λi σ H3 _ ⟨_,_,_,e,_⟩=>e ▸ SqL.of hp1) ?_ ?_⟩
  ·rintro i y σ H3 hi ⟨x3,x4,rfl,rfl,no⟩
   obtain⟨n,ad,p1,b,hn,rfl,ht,dm,hb,nb,_⟩:=Ef D1 hi
   refine⟨ad,_,rfl,ht,rfl,_,_,rfl,_,_,rfl,rfl,?_⟩
   refine⟨_,rfl,_,rfl,dM n.1,dM k,dm,Da.same s1 hm,zw (rP l ns n (aD hn)),zw hk,_,rfl,?_⟩
   rw[GF]
   refine fY (λe=>?_) (λe=>?_)
   ·have e:n.1=k:=by simpa using e
    exact⟨_,rfl,k1 _ (FX hn e no) b H3 s1 nb hb⟩
   ·have e:n.1≠k:=by simpa using e
    refine⟨_,_,rfl,rfl,λj hj n' hn'=>?_⟩
    rcases de.mp hj with z |z
    ·exact no j z n' hn'
    ·subst z;rw[hn]at hn';cases hn';exact e
  ·rintro σ H3 ⟨x3,x4,rfl,rfl,no⟩
   have hlen:(mvs l ns).length=vs.length:=by have:=D1.length;rw[aa]at this;exact this.symm
   refine⟨by decide,λe he=>k2 (EK λj hj=>no j (by omega)) H3 s1 e he⟩
theorem AG (F:Fn K mg "is_end" nI ["line","end"] f fd):fm P w K mg base CX0 1 f fd ["line","end"] (wI K):=by
 refine F.F.ok wK (λvs H Q E h=>?_) (λcdv A outer s H vs Q E hr h=>?_)
 ·obtain⟨v,l,e,rfl,_⟩:=h;rfl
 ·obtain⟨v,l,e,rfl,hv,k⟩:=h
  obtain⟨a,b,rfl,ht,us,hl,hq⟩:=oy hv
  refine⟨_,(fe (fz (ze Gr Gq fc (pv 1) (fo jt fc (gr lI (pv 0) fc (λ_ _=>rfl)))))),?_⟩
  refine⟨_,rfl,_,_,rfl,rfl,_,rfl,fY (λh=>?_) (λh=>?_)⟩
  ·have h:0<=e:=by simpa using h
   refine⟨_,rfl,a,_,_,_,rfl,rfl,ht,rfl,_,_,rfl,rfl,.inl ⟨by decide,by decide⟩,_,_,rfl,rfl,?_⟩
   have e1:decide (0<=e/\e<2*l.1)=decide (e<2*l.1):=by simp[h]
   rw[e1]at k
   exact k
  ·have h:¬0<=e:=by simpa using h
   have e1:decide (0<=e/\e<2*l.1)=false:=by simp[h]
   rw[e1]at k
   exact k
theorem uQ (F:Fn K mg "check_train" jM ["line","train"] f fd)(XS:Xr K mg c2 c3)(B:Bm mg)(ir:Fn K mg "is_end" nI ["line","end"] f1 fd1)
  (fK:Fn K mg "piece_of" jU ["end"] f2 fd2) (i6:Fn K mg "joined" mC ["line","end"] f3 fd3) (fT:Fn K mg "other_end" jZ ["end"] f4 fd4):fm P w K mg base (CXr P w base) 2 f fd ["line","train"] (yX K c2):=by
 have rH:fm P w K mg base CX0 1 f1 fd1 ["line","end"] (wI K):=AG ir
 have iV:fm P w K mg base CX0 1 f2 fd2 ["end"] qR:=mY fK
 have vM:fm P w K mg base CX0 1 f3 fd3 ["line","end"] (qv K):=wR i6 B.toBl
 have kd:fm P w K mg base CX0 1 f4 fd4 ["end"] ki:=oq fT
 refine F.F.okX kx (λvs H Q E h=>?_) (λcdv A outer s H vs Q E hr h=>?_)
 ·obtain⟨v,u,l,ns,rfl,_⟩:=h;rfl
 ·obtain⟨v,u,l,ns,rfl,hv,hu,ok,hz,k1,k2⟩:=h
  obtain⟨a,rfl,ha⟩:=kF.mp hu
  refine⟨_,(fb (gf (kT (pA (pv 1) (λ_=>rfl)))
 (fe (gN gu rfl rfl XS.ji.m XS.ji.q aG (eW fw eX))) fD)
 (fb (jq PassesOwn.leaving rfl (gg (pv 1)) (ft (i:=2) kx.nd rfl (Or.inl rfl))
 (fe (gf (kT (ni (fj rH (hr.mono (by decide)) rfl ir.m ir.F.kp ir.b .nil fM (eW (pv 0) (eW (pv 2) eX)))))
 (fe (gN gu rfl rfl XS.ji.m XS.ji.q aG (eW fw eX))) fD)))
 (fb (gf (gw (tq (gd xh rfl B.len dZ (eW (IW (gg (pv 1)) rfl nP (.name (by decide)) (λ_ _ _ _=>(ft (i:=0) nP.nd rfl (Or.inl rfl))) (λ_ _ _ _=>gZ) (λ_ _ _ _=>(fj iV (hr.mono (by decide)) rfl fK.m fK.F.kp fK.b .nil fM (eW (pv 0) eX)))) eX)) (gd iB rfl B.len dZ (eW (pv 1) eX))))
 (fe (gN gu rfl rfl XS.ji.m XS.ji.q aG (eW fw eX))) fD)
 (fe (jq PassesOwn.leaving rfl (DR rfl B.zip (eW (pv 1) (eW (kD mS (pv 1) (lr fc) lX) eX))) (jr (n:=2) rfl (fH (ft (i:=2) kx.nd rfl (Or.inl rfl)) (fH (ft (i:=3) kx.nd rfl (Or.inl rfl)) g9)))
 (fe (gf (gG (mf hr.units) (pv 3) (fj vM (hr.mono (by decide)) rfl i6.m i6.F.kp i6.b .nil fM (eW (pv 0) (eW (fj kd (hr.mono (by decide)) rfl fT.m fT.F.kp fT.b .nil fM (eW (pv 2) eX)) eX))) (by with_unfolding_all rfl))
 (fe (gN gu rfl rfl XS.ji.m XS.ji.q aG (eW fw eX))) fD))))))),?_⟩
  refine⟨_,rfl,_,.inl ⟨_,ha,rfl⟩,fY (λh=>?_) (λh=>?_)⟩
  ·have h:ns = []:=by simpa using h
   exact⟨by decide,λe he=>k2 (λz=>z.1 h) H (fk.refl _) e he⟩
  have hne:ns≠ []:=by simpa using h
  refine⟨_,rfl,a,rfl,⟨_,ha⟩,pI (K:=K) (a:=a) (xs:=ns.map V.int) (λi σ H3=>∃ (x2 x3:Option V),σ = [some v,some (.ref a),x2,x3]/\H3=H/\∀ e∈ns.take i,0<=e/\e<2*l.1)
   ⟨none,none,rfl,rfl,λe he=>by simp at he⟩ (λi σ H3 _ ⟨_,_,_,e,_⟩=>e ▸ ha) ?_ ?_⟩
  ·rintro i y σ H3 hi ⟨x2,x3,rfl,rfl,al⟩
   rw[aq]at hi
   obtain⟨e,he,rfl⟩:∃ e,ns[i]? = some e/\y = .int e:=by
    cases q:ns[i]? with
    |none=>rw[q]at hi;cases hi
    |some e=>rw[q]at hi;cases hi;exact⟨e,rfl,rfl⟩
   refine⟨_,rfl,_,rfl,v,l,e,rfl,hv,_,rfl,fY (λh=>?_) (λh=>?_)⟩
   ·have h:¬(0<=e/\e<2*l.1):=λz=>by simp[z]at h
    exact⟨by decide,λx hx=>k2 (λz=>h (z.2.ends e (aD he))) H3 (fk.refl _) x hx⟩
   ·have h:0<=e/\e<2*l.1:=by simpa using h
    refine⟨_,_,rfl,rfl,λx hx=>?_⟩
    rw[bR,he]at hx
    rcases aJ.mp hx with z |z
    ·exact al x z
    ·have z:x=e:=by simpa using z
     rw[z];exact h
  rintro σ H3 ⟨x2,x3,rfl,rfl,al⟩
  rw[aa,bW]at al
  refine⟨_,rfl,a,rfl,⟨_,ha⟩,λq nq=>DE (gI ha) ns (λe=>e/2) nq (by rw[aa]) (by rw[aa];show ns.length+1<4096;omega) ?_ ?_⟩
  ·intro i x d H' hx hd sm P1 P0 p1
   rw[aq,hd]at hx
   cases hx
   refine iY ?_
   exact⟨_,rfl,d,rfl,p1⟩
  have hq3:=eZ (H:=H3) (a:=q) (o:=.set (λk=>decide (k∈ns.map λe=>e/2)) (dn (ns.map λe=>e/2) (ns.map V.int).length))
  have s4:=eY (o:=.set (λk=>decide (k∈ns.map λe=>e/2)) (dn (ns.map λe=>e/2) (ns.map V.int).length)) nq
  generalize upd H3 q _=H4 at hq3 s4 ⊢
  refine⟨q,_,_,rfl,hq3,_,rfl,a,_,rfl,.inl (s4.seq ha),_,_,rfl,rfl,_,rfl,fY (λh=>?_) (λh=>?_)⟩
  ·have h:dn (ns.map λe=>e/2) (ns.map V.int).length<(ns.map V.int).length:=by simpa using h
   rw[aa]at h
   have h2:=(BM (ns.map λe=>e/2)).mp (by rw[aa];exact h)
   exact⟨by decide,λx hx=>k2 (λz=>h2 z.2.nd) H4 s4 x hx⟩
  have h:¬dn (ns.map λe=>e/2) (ns.map V.int).length<(ns.map V.int).length:=by simpa using h
  rw[aa]at h
  have nd:(ns.map λe=>e/2).Nodup:=by
   have h3:=(BM (ns.map λe=>e/2))
   rw[aa]at h3
   exact Decidable.byContradiction λz=>h (h3.mpr z)
  refine⟨_,rfl,_,rfl,_,rfl,a,_,rfl,s4.seq ha,λt nt=>?_⟩
  rw[rA]
  have ht:=eZ (H:=H4) (a:=t) (o:=.lst ((ns.drop 1).map V.int))
  have s5:=eY (o:=.lst ((ns.drop 1).map V.int)) nt
  generalize upd H4 t _=H5 at ht s5 ⊢
  have S5:=s4.trans s5
  refine⟨a,t,rfl,⟨_,S5.seq ha⟩,⟨_,SqL.of ht⟩,BJ (K:=K) (a:=a) (b:=t) (xs:=ns.map V.int) (ys:=(ns.drop 1).map V.int) (ns.length-1) (by simp)
   (λi σ H6=>∃ (x2 x3:Option V),σ = [some v,some (.ref a),x2,x3]/\fk H5 H6/\∀ j,j<i->∀ x y,ns[j]? = some x->ns[j+1]? = some y->y∈jn l.2 (oth x))
   ⟨_,_,rfl,fk.refl _,λj hj=>absurd hj (Nat.not_lt_zero j)⟩ (λi σ H6 _ ⟨_,_,_,s,_⟩=>⟨(S5.trans s).seq ha,SqL.of (s _ _ ht)⟩) ?_ ?_⟩
  ·rintro i x y σ H6 p hx hy ⟨x2,x3,rfl,s6,al2⟩ np
   rw[aq]at hx hy
   rw[bE,Nat.add_comm]at hy
   obtain⟨d,hd,rfl⟩:∃ e,ns[i]? = some e/\x = .int e:=by
    cases q:ns[i]? with
    |none=>rw[q]at hx;cases hx
    |some e=>rw[q]at hx;cases hx;exact⟨e,rfl,rfl⟩
   obtain⟨e,he,rfl⟩:∃ e,ns[i+1]? = some e/\y = .int e:=by
    cases q:ns[i+1]? with
    |none=>rw[q]at hy;cases hy
    |some e=>rw[q]at hy;cases hy;exact⟨e,rfl,rfl⟩
   have S7:=(S5.trans s6).trans (eY (o:=.tup [.int d,.int e]) np)
   have s7:=s6.trans (eY (o:=.tup [.int d,.int e]) np)
   refine⟨p,_,rfl,SqT.of eZ,rfl,_,_,rfl,_,_,rfl,rfl,?_⟩
   refine⟨_,rfl,_,rfl,_,rfl,d,rfl,v,l,_,rfl,Da.same S7 hv,ok,λr H8 s8 nr hr8=>?_⟩
   refine⟨(jn l.2 (oth d)).map PyData.int,.int e,gR hr8,gD.mpr rfl,sd _,p7 _,_,rfl,?_⟩
   rw[xo]
   refine fY (λh=>?_) (λh=>?_)
   ·have h:e∉jn l.2 (oth d):=by simpa using h
    exact⟨by decide,λx hx=>k2 (λz=>h (z.2.ch i d e hd he)) H8 (S7.trans s8) x hx⟩
   ·have h:e∈jn l.2 (oth d):=by simpa using h
    refine⟨_,_,rfl,s7.trans s8,λj hj x2 y2 hx2 hy2=>?_⟩
    rcases de.mp hj with z |z
    ·exact al2 j z x2 y2 hx2 hy2
    ·subst z
     rw[hd]at hx2;rw[he]at hy2
     cases hx2;cases hy2
     exact h
  rintro σ H6 ⟨x2,x3,rfl,s6,al2⟩
  refine k1 ⟨hne,al,nd,λi x y hx hy=>al2 i ?_ x y hx hy⟩ H6 (S5.trans s6)
  have:=(af.mp hy).1
  omega
end
theorem B8:uh []=Str.ofString "-" :=by decide +kernel
theorem Ds {run:List (Str×Int)}(h:run≠ []):uh run=Str.join (chS 32) (run.map txM):=by
 cases run with
 |nil=>exact absurd rfl h
 |cons k r=>
  unfold uh
  refine nW ?_
  rw[iA]
  show _ ++ []=_
  rw[bN]
theorem empty_app (x:Str):Str.empty++x=x:=by
 refine nW ?_
 rw[iA];rfl
noncomputable abbrev jy:Stmt:=top 55
theorem vT:fC ["train"] ["train"] (fh jy):=⟨rfl,rfl,rfl,by decide +kernel,rfl,by decide +kernel,by decide +kernel⟩
theorem oW:gq (fh jy) ["train"] {kind:=.function,names:=[(Str.ofString ".0",.local),(Str.ofString "end",.local),(Str.ofString "show_end",.globalImplicit)],isGenerator:=false,isCoroutine:=false,more:=[]} ["end"] 1 [none]:=⟨rfl,by decide +kernel,by decide +kernel,by decide +kernel,rfl,by decide +kernel,rfl,by decide +kernel⟩
noncomputable abbrev mr:Stmt:=top 56
theorem yY:fC ["run"] ["run"] (fh mr):=⟨rfl,rfl,rfl,by decide +kernel,rfl,by decide +kernel,by decide +kernel⟩
theorem nk:gq (fh mr) ["run"] {kind:=.function,names:=[(Str.ofString ".0",.local),(Str.ofString "word",.local),(Str.ofString "end",.local),(Str.ofString "show_end",.globalImplicit)],isGenerator:=false,isCoroutine:=false,more:=[]} ["word","end"] 2 [none,none]:=⟨rfl,by decide +kernel,by decide +kernel,by decide +kernel,rfl,by decide +kernel,rfl,by decide +kernel⟩
section
variable {P:Program}{w:World}{K:PySem.W.Frag}{mg:Str->Option Value}{base:Heap}{f:Addr}{fd:FuncData}
theorem v9 (F:Fn K mg "show_train" jy ["train"] f fd)(ik:Fn K mg "show_end" mw ["end"] f1 fd1)(kX:fm P w K mg base CX0 2 f1 fd1 ["end"] qu):fm P w K mg base CX0 3 f fd ["train"] (nF K):=by
 refine F.F.ok vT (λvs H Q E h=>?_) (λcdv A outer s H vs Q E hr h=>?_)
 ·obtain⟨v,ns,rfl,_⟩:=h;rfl
 ·obtain⟨v,ns,rfl,hv,hN,k⟩:=h
  obtain⟨a,rfl,hS⟩:=kF.mp hv
  have hl:=hN.1
  refine⟨_,(fe (fz (lQ bO dE dD uc fw (eW (nL (gg (pv 0)) rfl oW (.name (by decide)) (λ_ _ _ _=>(ft (i:=0) oW.nd rfl (Or.inl rfl))) (λ_ _ _ _=>gZ) (λ_ _ _ _=>(fj kX (hr.mono (by decide)) rfl ik.m ik.F.kp ik.b .nil fM (eW (pv 0) eX)))) eX)))),?_⟩
  refine⟨rfl,_,rfl,a,rfl,⟨_,hS⟩,λt nt=>qa ns.length ns (λ_=>true) (λe=>V.str (txE e)) nt rfl (jf (by omega)) (λi H s hi=>(gI hS).go i H s (by rw[aa];exact hi)) (λH s=>by have:=(gI hS).stop H s;rw[aa]at this;exact this) ?_ ?_⟩
  ·intro i y d G G' sG yy hd P1 P0 p1 p0
   have hi:i<ns.length:=(af.mp hd).1
   obtain⟨rfl,hx'⟩:=(gI hS).yld i G y G' sG (by rw[aa];exact hi) yy
   rw[aq,hd]at hx'
   cases hx'
   have he:=hN.2 d (aD hd)
   refine iY ?_
   exact⟨_,rfl,d,rfl,he.1,he.2,p1 _ rfl (fk.refl _)⟩
  intro H5 s5 h5
  rw[iH]at h5
  refine⟨_,t,ns.map txE,rfl,rfl,SqL.of (by rw[h5,br];rfl),λy hy=>?_,by rw[aa];omega,by decide,?_⟩
  ·obtain⟨e,he,rfl⟩:=aH.mp hy
   have:=(iF (hN.2 e he).1 (hN.2 e he).2).2.2
   omega
  ·rw[kJ]
   exact k _ s5
theorem zj (F:Fn K mg "show_run" mr ["run"] f fd)(ik:Fn K mg "show_end" mw ["end"] f1 fd1)(kX:fm P w K mg base CX0 2 f1 fd1 ["end"] qu):fm P w K mg base CX0 3 f fd ["run"] (qO K):=by
 refine F.F.ok yY (λvs H Q E h=>?_) (λcdv A outer s H vs Q E hr h=>?_)
 ·obtain⟨v,run,rfl,_⟩:=h;rfl
 ·obtain⟨v,run,rfl,hv,hK,k⟩:=h
  obtain⟨a,us,rfl,hS,D⟩:=jg.mp hv
  have hl:=hK.1
  have ul:us.length=run.length:=by have:=Dgs.length D;rw[aa]at this;exact this
  refine⟨_,(fb (gf (kT (pA (pv 0) (λ_=>rfl)))
 (fe (fz fw)) fD)
 (fe (fz (lQ bO dE dD uc fw (eW (nL (gg (pv 0)) rfl nk (.tup (.cons (.name (by decide)) (.cons (.name (by decide)) .nil))) (λ_ _ _ _=>(jr (n:=2) rfl (fH (ft (i:=0) nk.nd rfl (Or.inl rfl)) (fH (ft (i:=1) nk.nd rfl (Or.inl rfl)) g9)))) (λ_ _ _ _=>gZ) (λ_ _ _ _=>(t8 (rW (pv 0) (nK (rW (fj kX (hr.mono (by decide)) rfl ik.m ik.F.kp ik.b .nil fM (eW (pv 1) eX)) xQ)))))) eX))))),?_⟩
  refine⟨_,rfl,_,.inl ⟨_,hS,rfl⟩,fY (λh=>?_) (λh=>?_)⟩
  ·have h:us = []:=by simpa using h
   have hr:run = []:=eV.mp (by rw[<-ul,h];rfl)
   have:=k H (fk.refl _)
   rw[hr,B8]at this
   exact this
  have hne:run≠ []:=λe=>h (by
   have:us = []:=eV.mp (by rw[ul,e];rfl)
   simp[this])
  refine⟨rfl,_,rfl,a,rfl,⟨_,hS⟩,λt nt=>qa run.length run (λ_=>true) (λk=>V.str (txM k)) nt rfl (jf (by omega)) (λi H s hi=>(gI hS).go i H s (by rw[ul];exact hi)) (λH s=>by have:=(gI hS).stop H s;rw[ul]at this;exact this) ?_ ?_⟩
  ·intro i y d G G' sG yy hd P1 P0 p1 p0
   have hi:i<run.length:=(af.mp hd).1
   obtain⟨rfl,hx'⟩:=(gI hS).yld i G y G' sG (by rw[ul];exact hi) yy
   obtain⟨kq,hk,dk⟩:=ES (Das.same sG D) hx'
   rw[hd]at hk
   cases hk
   obtain⟨ad,rfl,hA⟩:=F1 dk
   obtain⟨g1,g2,g3⟩:=hK.2 d (aD hd)
   have gl:=(nD g1).2
   have e4:(Str.ofString " ").length=1:=by decide +kernel
   have gt:=(iF g2 g3).2.2
   refine⟨ad,_,rfl,hA,rfl,_,_,rfl,_,_,rfl,rfl,?_⟩
   unfold Ce
   dsimp only
   rw[aA rfl]
   have e5:Str.empty++d.1=d.1:=empty_app _
   refine⟨_,rfl,d.1,.inr ⟨rfl,by rw[aM];omega⟩,by rw[e5,aM];omega,by rw[e5,aB,aM];omega,_,rfl,d.2,rfl,g2,g3,txE d.2,.inr ⟨rfl,by rw[aM];omega⟩,by rw[e5,aB,aB,aM];omega,?_⟩
   rw[e5]
   refine⟨by rw[aB,aB,aM];omega,?_⟩
   exact p1 _ rfl (fk.refl _)
  intro H5 s5 h5
  rw[iH]at h5
  refine⟨_,t,run.map txM,rfl,rfl,SqL.of (by rw[h5,br];rfl),λy hy=>?_,by rw[aa];omega,by decide,?_⟩
  ·obtain⟨kq,hk,rfl⟩:=aH.mp hy
   obtain⟨g1,g2,g3⟩:=hK.2 kq hk
   have gl:=(nD g1).2
   have e4:(Str.ofString " ").length=1:=by decide +kernel
   have gt:=(iF g2 g3).2.2
   unfold txM
   rw[aB,aB];omega
  rw[kJ,<-Ds hne]
  exact k _ s5
end
structure Fm (K:PySem.W.Frag)(x q:Str)(st:Stmt)(ps:List Str)(f:Addr)(fd:FuncData):Prop where
 F:Fun K x q st f fd
 b:Binds K fd ps []
structure DkK (K:PySem.W.Frag)(mg:Str->Option Value)(C fi fs:Addr):Prop where
 mkr:Mk K C fi
 m:mg "Desk" = some (.ref C)
 cl:Cls K C
 say:Meth K C "say" fs
 nl:pS K C "line"
 nt:pS K C "train"
noncomputable abbrev Ans:=Except Nat Str×DS
open Classical in
noncomputable def qr (S:DS) (z:Str):Ans:=match kB z with
 |none=>(.error 4,S)
 |some l=>if fW l then(.ok "ok",(some l,none))else(.error 0,S)
open Classical in
noncomputable def kG (S:DS) (z:Str):Ans:=match rdT z with
 |none=>(.error 4,S)
 |some ns=>match S.1 with
  |none=>(.error 0,S)
  |some l=>if isT l ns then(.ok "ok",(some l,some ns))else(.error 5,S)
noncomputable def both (S:DS)(k:Ln->List Int->Ans):Ans:=match S.1 with
 |none=>(.error 0,S)
 |some l=>match S.2 with
  |none=>(.error 5,S)
  |some t=>k l t
noncomputable def dGo (w:Str)(S:DS)(z:Str):Ans:=match lC z.cps.toList with
 |none=>(.error 4,S)
 |some e=>both S λl t=>match fnd (mvs l t) (w,e)with
  |some b=>(.ok (txT b),(some l,some b))
  |none=>(.error 1,S)
noncomputable def sE (S:DS):Ans:=both S λl t=>(.ok (txT (t.reverse.map oth)),(some l,some (t.reverse.map oth)))
noncomputable def xg (S:DS):Ans:=both S λ_ t=>(.ok (txT t),S)
noncomputable def sF (S:DS):Ans:=both S λl t=>(.ok (uh ((mvs l t).map (·.1))),S)
structure DOk (S:DS):Prop where
 l:∀ l,S.1=some l->fW l
 t:∀ t,S.2=some t->∃ l,S.1=some l/\isT l t
theorem fW.ok {l:Ln}(h:fW l):ij l:=by
 obtain⟨h1,h2,h3,h4,h5⟩:=h
 refine⟨h1,h2,h3,λe=>by have:=inc_le l.2 e;omega,λp hp=>?_⟩
 obtain⟨a,b,c,_⟩:=h4 p hp
 exact⟨a.1,c,b.2⟩
theorem isT.okN {l:Ln}{t:List Int}(L:fW l)(h:isT l t):OkN t:=by
 have h2:l.1<=40:=L.2.1
 refine⟨?_,λe he=>by have:=h.2.ends e he;omega⟩
 have h3:=zB h.2.nd (n:=l.1) λk hk=>by
  obtain⟨e,he,rfl⟩:=aH.mp hk
  have:=h.2.ends e he
  exact⟨by omega,by omega⟩
 rw[aa]at h3
 omega
variable {k:Ln->List Int->Ans}
section
variable {S:DS}{z:Str}{l:Ln}{ns t:List Int}
theorem BS (h:kB z=some l)(i:fW l):qr S z=(.ok "ok",(some l,none)):=by unfold qr;rw[h];exact aA i
theorem F4 (h:kB z=some l)(i:¬fW l):qr S z=(.error 0,S):=by unfold qr;rw[h];exact au i
theorem F2 (h:kB z=none):qr S z=(.error 4,S):=by unfold qr;rw[h]
theorem EU (h:rdT z=none):kG S z=(.error 4,S):=by unfold kG;rw[h]
theorem EW (h:rdT z=some ns)(hl:S.1=none):kG S z=(.error 0,S):=by unfold kG;rw[h];dsimp only;rw[hl]
theorem ET (h:rdT z=some ns)(hl:S.1=some l)(i:isT l ns):kG S z=(.ok "ok",(some l,some ns)):=by unfold kG;rw[h];dsimp only;rw[hl];exact aA i
theorem EV (h:rdT z=some ns)(hl:S.1=some l)(i:¬isT l ns):kG S z=(.error 5,S):=by unfold kG;rw[h];dsimp only;rw[hl];exact au i
theorem lN (hl:S.1=none):both S k=(.error 0,S):=by unfold both;rw[hl]
theorem mJ (hl:S.1=some l)(ht:S.2=none):both S k=(.error 5,S):=by unfold both;rw[hl];dsimp only;rw[ht]
theorem lM (hl:S.1=some l)(ht:S.2=some t):both S k=k l t:=by unfold both;rw[hl];dsimp only;rw[ht]
theorem Fp (h:rdT z=some ns):ns.length=(wds z).length:=by
 have:=cg List.length (Ai h)
 rw[aa,aa]at this
 exact this.symm
end
noncomputable def Dl (K:PySem.W.Frag)(C:Addr)(cs:List Addr)(H:Hp)(d:Addr)(Q:VK)(E:XK)(p:Addr->Prop)(r:Ans):Prop:=
 (∀ a,r.1 = .ok a->∀ H',Oth d H H'->Dsk K C p H' d r.2->Q (.str a) H')/\(∀ j,r.1 = .error j->∀ c,cs[j]? = some c->∀ H',fk H H'->∀ e,H' e=none->E (.ref c) (some e) H')
variable {K:PySem.W.Frag}{C d:Addr}{H1:Hp}{p:Addr->Prop}
theorem Dl.same {cs:List Addr}{Q:VK}{E:XK}{r:Ans}(s:fk H H1)(h:Dl K C cs H d Q E p r):Dl K C cs H1 d Q E p r:=
 ⟨λa e H' o=>h.1 a e H' ((fk.oth s).trans o),λj e c hc H' s'=>h.2 j e c hc H' (s.trans s')⟩
noncomputable def lz (K:PySem.W.Frag)(C:Addr)(cs:List Addr)(n:Nat)(D:DS->Str->Ans):Sp:=λvs H Q E=>∃ (d:Addr) (z:Str) (S:DS) (p:Addr->Prop),vs = [.ref d,.str z]/\Dsk K C p H d S/\DOk S/\z.length<=n/\Dl K C cs H d Q E p (D S z)
noncomputable def nG (K:PySem.W.Frag)(C:Addr)(cs:List Addr)(D:DS->Ans):Sp:=λvs H Q E=>∃ (d:Addr) (S:DS) (p:Addr->Prop),vs = [.ref d]/\Dsk K C p H d S/\DOk S/\Dl K C cs H d Q E p (D S)
theorem hZ:∀ {o:Option Ln}{v:V},VL K H o v->(v = .non↔o=none)
 |none,v,h=>⟨λ_=>rfl,λ_=>h⟩
 |some l,v,h=>⟨λz=>(by obtain⟨a,_,e,_⟩:=gC.mp h;rw[z]at e;cases e),λz=>(by cases z)⟩
theorem iP:∀ {o:Option (List Int)}{v:V},VT K H o v->(v = .non↔o=none)
 |none,v,h=>⟨λ_=>rfl,λ_=>h⟩
 |some l,v,h=>⟨λz=>(by obtain⟨a,_,e,_⟩:=jg.mp h;rw[z]at e;cases e),λz=>(by cases z)⟩
theorem DP (x v u:V):lG "train" x [("line",v),("train",u)] = [((Str.ofString "line"),v),(Str.ofString "train",x)]:=by
 have h:¬(Str.ofString "line")=Str.ofString "train" :=by decide +kernel
 unfold lG
 rw[au h]
 unfold lG
 rw[aA rfl]
theorem IT (x v u:V):lG "line" x [("line",v),("train",u)] = [(Str.ofString "line",x),(Str.ofString "train",u)]:=by
 unfold lG
 rw[aA rfl]
noncomputable def wH (C c1:Addr):Sp:=λvs H Q E=>∃ (d dx:Addr) (v u:V),vs = [.ref d]/\H d=some (.ins C dx [("line",v),("train",u)])/\(v≠ .non->Q v H)/\(v = .non->∀ H',fk H H'->∀ e,H' e=none->E (.ref c1) (some e) H')
noncomputable def wG (C c1 c2:Addr):Sp:=λvs H Q E=>∃ (d dx:Addr) (v u:V),vs = [.ref d]/\H d=some (.ins C dx [("line",v),("train",u)])/\(v≠ .non->u≠ .non->Q u H)/\(v = .non->∀ H',fk H H'->∀ e,H' e=none->E (.ref c1) (some e) H')/\(v≠ .non->u = .non->∀ H',fk H H'->∀ e,H' e=none->E (.ref c2) (some e) H')
noncomputable abbrev iM:Stmt:=top 64
theorem xG:fC ["desk"] ["desk"] (fh iM):=⟨rfl,rfl,rfl,by decide +kernel,rfl,by decide +kernel,by decide +kernel⟩
noncomputable abbrev iy:Stmt:=top 65
theorem vX:fC ["desk"] ["desk"] (fh iy):=⟨rfl,rfl,rfl,by decide +kernel,rfl,by decide +kernel,by decide +kernel⟩
section
variable {P:Program}{w:World}{K:PySem.W.Frag}{mg:Str->Option Value}{base:Heap}{f:Addr}{fd:FuncData}{D c1 c2 c3 c4 c5 c6 c7 C fi fs:Addr}
theorem rf (F:Fn K mg "kept_line" iM ["desk"] f fd)(XS:Xs K mg D c1 c2 c3 c4 c5 c6 c7)(DK:DkK K mg C fi fs):fm P w K mg base (CXr P w base) 1 f fd ["desk"] (wH C c1):=by
 refine F.F.okX xG (λvs H Q E h=>?_) (λcdv A outer s H vs Q E hr h=>?_)
 ·obtain⟨d,dx,v,u,rfl,_⟩:=h;rfl
 ·obtain⟨d,dx,v,u,rfl,hd,k1,k2⟩:=h
  refine⟨_,(fb (gf (gw (rX (xR (pv 0) rfl)))
 (fe (gN gu rfl rfl XS.je.m XS.je.q aG (eW fw eX))) fD)
 (fe (fz (xR (pv 0) rfl)))),?_⟩
  refine⟨_,rfl,d,C,dx,_,v,rfl,hd,DK.cl,DK.nl,rfl,_,rfl,fY (λh=>?_) (λh=>?_)⟩
  ·exact⟨by decide,λe he=>k2 (by simpa using h) H (fk.refl _) e he⟩
  ·exact⟨_,rfl,d,C,dx,_,v,rfl,hd,DK.cl,DK.nl,rfl,k1 (by simpa using h)⟩
theorem we (F:Fn K mg "kept_train" iy ["desk"] f fd)(XS:Xs K mg D c1 c2 c3 c4 c5 c6 c7)(DK:DkK K mg C fi fs)(fJ:Fn K mg "kept_line" iM ["desk"] f1 fd1):fm P w K mg base (CXr P w base) 2 f fd ["desk"] (wG C c1 c2):=by
 have gz:fm P w K mg base (CXr P w base) 1 f1 fd1 ["desk"] (wH C c1):=rf fJ XS DK
 refine F.F.okX vX (λvs H Q E h=>?_) (λcdv A outer s H vs Q E hr h=>?_)
 ·obtain⟨d,dx,v,u,rfl,_⟩:=h;rfl
 ·obtain⟨d,dx,v,u,rfl,hd,k1,k2,k3⟩:=h
  refine⟨_,(fb (kC (fj gz (hr.mono (by decide)) rfl fJ.m fJ.F.kp fJ.b .nil fU (eW (pv 0) eX)))
 (fb (gf (gw (rX (xR (pv 0) rfl)))
 (fe (gN gu rfl rfl XS.ji.m XS.ji.q aG (eW fw eX))) fD)
 (fe (fz (xR (pv 0) rfl))))),?_⟩
  refine⟨_,rfl,d,dx,v,u,rfl,hd,λvn=>?_,k2⟩
  refine⟨_,rfl,d,C,dx,_,u,rfl,hd,DK.cl,DK.nt,rfl,_,rfl,fY (λh=>?_) (λh=>?_)⟩
  ·exact⟨by decide,λe he=>k3 vn (by simpa using h) H (fk.refl _) e he⟩
  ·exact⟨_,rfl,d,C,dx,_,u,rfl,hd,DK.cl,DK.nt,rfl,k1 vn (by simpa using h)⟩
end
noncomputable def Bg (K:PySem.W.Frag)(C:Addr):Sp:=λvs H Q _=>∃ (d dx:Addr) (v u x:V) (ns:List Int),vs = [.ref d,x]/\H d=some (.ins C dx [("line",v),("train",u)])/\Da K (hid d H) (dI ns) x/\OkN ns/\∀ H',fk (upd H d (.ins C dx [("line",v),("train",x)])) H'->Q (.str (txT ns)) H'
noncomputable abbrev ph:Stmt:=top 67
theorem xH:fC ["desk","rest"] ["desk","rest"] (fh ph):=⟨rfl,rfl,rfl,by decide +kernel,rfl,by decide +kernel,by decide +kernel⟩
noncomputable abbrev oj:Stmt:=top 68
theorem qo:fC ["desk","rest","train"] ["desk","rest"] (fh oj):=⟨rfl,rfl,rfl,by decide +kernel,rfl,by decide +kernel,by decide +kernel⟩
noncomputable abbrev jA:Stmt:=top 69
theorem vY:fC ["desk","train"] ["desk","train"] (fh jA):=⟨rfl,rfl,rfl,by decide +kernel,rfl,by decide +kernel,by decide +kernel⟩
section
variable {P:Program}{w:World}{K:PySem.W.Frag}{mg:Str->Option Value}{base:Heap}{f:Addr}{fd:FuncData}{D c1 c2 c3 c4 c5 c6 c7 C fi fs:Addr}
theorem xY (F:Fn K mg "keep_line" ph ["desk","rest"] f fd)(DK:DkK K mg C fi fs)(kf:Fn K mg "read_line" lA ["text"] f1 fd1)(pT:fm P w K mg base (CXr P w base) 4 f1 fd1 ["text"] (Gg K c1 c6)):
  fm P w K mg base (CXr P w base) 5 f fd ["desk","rest"] (lz K C [c1,c3,c4,c7,c6,c2,c5] 2100 qr):=by
 refine F.F.okX xH (λvs H Q E h=>?_) (λcdv A outer s H vs Q E hr h=>?_)
 ·obtain⟨d,z,S,p,rfl,_⟩:=h;rfl
 ·obtain⟨d,z,S,p,rfl,hD,hS,hz,k1,k2⟩:=h
  obtain⟨dx,v,u,hd,hv,hu⟩:=hD.at_
  refine⟨_,(fb (rV (pv 0) (fj pT (hr.mono (by decide)) rfl kf.m kf.F.kp kf.b .nil fU (eW (pv 1) eX)) rfl)
 (fb (rV (pv 0) lH rfl)
 (fe (fz fw)))),?_⟩
  refine⟨_,rfl,z,rfl,by omega,λl hl il pl t us H1 s1 npl nt h1 h2 h3=>?_,λl hl il H1 s1 e he=>?_,λhl H1 s1 e he=>?_⟩
  ·have hd1:=s1 _ _ hd
   refine⟨_,rfl,d,C,dx,_,rfl,hd1,DK.cl,DK.nl,by show 2<1000;decide,?_⟩
   rw[IT]
   refine⟨_,rfl,d,C,dx,_,rfl,eZ,DK.cl,DK.nt,by show 2<1000;decide,?_⟩
   rw[DP,nU]
   have li1:=LI.same s1 hD.li
   have q:=BS (S:=S) hl il
   rw[q]at k1
   refine k1 _ rfl _ (Oth.upd (fk.oth s1)) ⟨⟨dx,.ref pl,.non,eZ,?_,rfl⟩,hD.pd,LI.upd li1 (.inl ⟨_,_,_,rfl⟩)⟩
   rw[jw hD.pd]
   refine rh li1 h1 h2 h3 λz=>?_
   rcases hD.li t z with⟨_,_,_,e⟩|⟨_,e⟩<;>rw[nt]at e<;>cases e
  ·have q:=F4 (S:=S) hl il
   rw[q]at k2
   exact k2 0 rfl c1 rfl H1 s1 e he
  ·have q:=F2 (S:=S) hl
   rw[q]at k2
   exact k2 4 rfl c6 rfl H1 s1 e he
theorem wj (F:Fn K mg "keep_shown" jA ["desk","train"] f fd)(DK:DkK K mg C fi fs)(gS:Fn K mg "show_train" jy ["train"] f1 fd1)(jD:fm P w K mg base CX0 3 f1 fd1 ["train"] (nF K)):
  fm P w K mg base CX0 4 f fd ["desk","train"] (Bg K C):=by
 refine F.F.ok vY (λvs H Q E h=>?_) (λcdv A outer s H vs Q E hr h=>?_)
 ·obtain⟨d,dx,v,u,x,ns,rfl,_⟩:=h;rfl
 ·obtain⟨d,dx,v,u,x,ns,rfl,hd,hx,ok,k⟩:=h
  refine⟨_,(fb (rV (pv 0) (pv 1) rfl)
 (fe (fz (fj jD (hr.mono (by decide)) rfl gS.m gS.F.kp gS.b .nil fM (eW (pv 1) eX))))),?_⟩
  refine⟨_,rfl,_,rfl,d,C,dx,_,rfl,hd,DK.cl,DK.nt,by show 2<1000;decide,?_⟩
  rw[DP]
  refine⟨_,rfl,x,ns,rfl,?_,ok,λH' s=>k H' s⟩
  have h2:fk (hid d H) (upd H d (.ins C dx [("line",v),("train",x)])):=by
   rw[<-yn (o:=.ins C dx [("line",v),("train",x)])];exact pF
  exact Da.same h2 hx
theorem wg (F:Fn K mg "keep_train" oj ["desk","rest"] f fd)(DK:DkK K mg C fi fs)(jF:Fn K mg "read_train" kz ["text"] f1 fd1)(oG:fm P w K mg base (CXr P w base) 4 f1 fd1 ["text"] (Gf c6))
  (fJ:Fn K mg "kept_line" iM ["desk"] f2 fd2) (gz:fm P w K mg base (CXr P w base) 1 f2 fd2 ["desk"] (wH C c1)) (i9:Fn K mg "check_train" jM ["line","train"] f3 fd3) (nz:fm P w K mg base (CXr P w base) 4 f3 fd3 ["line","train"] (yX K c2)):
  fm P w K mg base (CXr P w base) 5 f fd ["desk","rest"] (lz K C [c1,c3,c4,c7,c6,c2,c5] 800 kG):=by
 refine F.F.okX qo (λvs H Q E h=>?_) (λcdv A outer s H vs Q E hr h=>?_)
 ·obtain⟨d,z,S,p,rfl,_⟩:=h;rfl
 ·obtain⟨d,z,S,p,rfl,hD,hS,hz,k1,k2⟩:=h
  obtain⟨dx,v,u,hd,hv,hu⟩:=hD.at_
  refine⟨_,(fb (fQ (i:=2) qo.nd rfl (Or.inl rfl) (fj oG (hr.mono (by decide)) rfl jF.m jF.F.kp jF.b .nil fU (eW (pv 1) eX)))
 (fb (kC (fj nz (hr.mono (by decide)) rfl i9.m i9.F.kp i9.b .nil fU (eW (fj gz (hr.mono (by decide)) rfl fJ.m fJ.F.kp fJ.b .nil fU (eW (pv 0) eX)) (eW (pv 2) eX))))
 (fb (rV (pv 0) (pv 2) rfl)
 (fe (fz fw))))),?_⟩
  refine⟨_,rfl,z,rfl,by omega,λns hns q H1 s1 nq hq=>?_,λhn H1 s1 e he=>?_⟩
  rotate_left
  ·have q:=EU (S:=S) hn
   rw[q]at k2
   exact k2 4 rfl c6 rfl H1 s1 e he
  have hd1:=s1 _ _ hd
  refine⟨_,rfl,d,dx,v,u,rfl,hd1,λvn=>?_,λvn H2 s2 e he=>?_⟩
  rotate_left
  ·have q:=EW hns ((hZ hv).mp vn)
   rw[q]at k2
   exact k2 0 rfl c1 rfl H2 (s1.trans s2) e he
  obtain⟨l,hl⟩:∃ l,S.1=some l:=by
   cases q:S.1 with
   |none=>exact absurd ((hZ hv).mpr q) vn
   |some l=>exact⟨l,rfl⟩
  have il:=hS.l l hl
  rw[hl]at hv
  have hv:Da K (gm p H) (dL l) v:=hv
  have nl:ns.length<=900:=by
   rw[Fp hns]
   have h1:=rO z 32
   have h2:=yg (Txt.split z (chS 32))
   unfold wds
   omega
  refine⟨_,rfl,v,.ref q,l,ns,rfl,Da.same (fN.trans s1) hv,gR hq,fW.ok il,nl,λit H2 s2=>?_,λit H2 s2 e he=>?_⟩
  ·have hd2:=s2 _ _ hd1
   refine⟨_,rfl,_,rfl,d,C,dx,_,rfl,hd2,DK.cl,DK.nt,by show 2<1000;decide,?_⟩
   rw[DP]
   have qq:=ET hns hl it
   rw[qq]at k1
   have li2:=LI.same (s1.trans s2) hD.li
   refine k1 _ rfl _ (Oth.upd (fk.oth (s1.trans s2))) ⟨⟨dx,v,.ref q,eZ,?_,?_⟩,hD.pd,LI.upd li2 (.inl ⟨_,_,_,rfl⟩)⟩
   ·rw[jw hD.pd]
    exact Da.same (hG (s1.trans s2)) hv
   ·rw[jw hD.pd]
    refine gR ?_
    rw[gL]
    ·exact s2 _ _ hq
    ·intro z
     rcases hD.li q z with⟨_,_,_,e⟩|⟨_,e⟩<;>rw[nq]at e<;>cases e
  ·have qq:=EV hns hl it
   rw[qq]at k2
   exact k2 5 rfl c2 rfl H2 (s1.trans s2) e he
end
theorem va {H0:Hp}{p l:Addr}{vs:List V}{ms:List Mv}{σ:L2.St}{Q:VK}(hp:H1 p=some (.lst vs))(D:Dgs (Lf H0 H1 p) (SqT K H1) (ms.map dMv) vs)(hz:ms.length<=1000)(nl:H1 l=none)
  (hq:∀ us H',fk H1 H'->H' l=some (.lst us)->Das K (hid l H') ((ms.map (·.1)).map dM) us->Q (.ref l) H'):LcW (Itl K p) (HK K 2 (zW (pG 0) (zW (pG 1) HM))) Ce (Cf 0) [none,none] σ Q l H1:=by
 have ml:vs.length=ms.length:=by have:=D.length;rw[aa]at this;exact this
 refine FK (K:=K) ms.length ms (λm=>dM m.1) nl rfl (jf hz) (λi G s hi=>(gI (SqL.of hp)).go i G s (by omega)) (λG s=>by have:=(gI (SqL.of (K:=K) hp)).stop G s;rw[ml]at this;exact this) ?_ ?_
 ·rintro i x d H8 H9 s8 ⟨us8,hl8⟩ ⟨rfl,y⟩ hd P1 P0 k1
  have hx:=y vs (SqL.of (s8 _ _ hp))
  obtain⟨m,ad,p1,bb,hm,rfl,ht,dm,hbb,nbb,_⟩:=Ef D hx
  rw[hd]at hm
  cases hm
  obtain⟨a1,ea1,htm⟩:=F1 dm
  cases ea1
  refine⟨ad,_,rfl,gT s8 ht,rfl,_,_,rfl,_,_,rfl,rfl,Iw ?_⟩
  refine⟨_,rfl,k1 _ _ (fk.refl _) (gC.mpr ⟨p1,_,rfl,FU hl8 (gT s8 htm),Dgs.two (sD.mpr rfl) (gD.mpr rfl)⟩)⟩
 ·intro us H' s hl DD
  refine hq us H' s hl ?_
  rw[br];exact DD
noncomputable abbrev xK:Stmt:=top 70
theorem y3:fC ["desk","rest","move"] ["desk","rest"] (fh xK):=⟨rfl,rfl,rfl,by decide +kernel,rfl,by decide +kernel,by decide +kernel⟩
noncomputable abbrev rR:Stmt:=top 71
theorem uw:fC ["desk","rest","move"] ["desk","rest"] (fh rR):=⟨rfl,rfl,rfl,by decide +kernel,rfl,by decide +kernel,by decide +kernel⟩
noncomputable abbrev n6:Stmt:=top 72
theorem vQ:fC ["desk"] ["desk"] (fh n6):=⟨rfl,rfl,rfl,by decide +kernel,rfl,by decide +kernel,by decide +kernel⟩
noncomputable abbrev lU:Stmt:=top 73
theorem vS:fC ["desk"] ["desk"] (fh lU):=⟨rfl,rfl,rfl,by decide +kernel,rfl,by decide +kernel,by decide +kernel⟩
theorem lK:gq (fh lU) ["desk"] {kind:=.function,names:=[(Str.ofString ".0",.local),(Str.ofString "move",.local),(Str.ofString "behind",.local)],isGenerator:=false,isCoroutine:=false,more:=[]} ["move","behind"] 2 [none,none]:=⟨rfl,by decide +kernel,by decide +kernel,by decide +kernel,rfl,by decide +kernel,rfl,by decide +kernel⟩
noncomputable abbrev n8:Stmt:=top 74
theorem vR:fC ["desk"] ["desk"] (fh n8):=⟨rfl,rfl,rfl,by decide +kernel,rfl,by decide +kernel,by decide +kernel⟩
variable {f5:Addr}{fd5:FuncData}
section
variable {P:Program}{w:World}{K:PySem.W.Frag}{mg:Str->Option Value}{base:Heap}{f:Addr}{fd:FuncData}{D c1 c2 c3 c4 c5 c6 c7 C fi fs:Addr}
theorem Ea (F:Fn K mg "go_on" xK ["desk","rest"] f fd)(fS:Fn K mg "read_end" jT ["text"] f1 fd1)(gW:fm P w K mg base (CXr P w base) 2 f1 fd1 ["text"] (qQ c6))
  (fJ:Fn K mg "kept_line" iM ["desk"] f2 fd2) (gz:fm P w K mg base (CXr P w base) 1 f2 fd2 ["desk"] (wH C c1)) (fG:Fn K mg "kept_train" iy ["desk"] f3 fd3) (gi:fm P w K mg base (CXr P w base) 2 f3 fd3 ["desk"] (wG C c1 c2))
  (mP:Fn K mg "done" uy ["line","train","move"] f4 fd4) (sS:fm P w K mg base (CXr P w base) 4 f4 fd4 ["line","train","move"] (xA K c3)) (gc:Fn K mg "keep_shown" jA ["desk","train"] f5 fd5) (h8:fm P w K mg base CX0 4 f5 fd5 ["desk","train"] (Bg K C)):
  fm P w K mg base (CXr P w base) 5 f fd ["desk","rest"] (lz K C [c1,c3,c4,c7,c6,c2,c5] 800 (dGo "on")):=by
 refine F.F.okX y3 (λvs H Q E h=>?_) (λcdv A outer s H vs Q E hr h=>?_)
 ·obtain⟨d,z,S,p,rfl,_⟩:=h;rfl
 ·obtain⟨d,z,S,p,rfl,hD,hS,hz,kk⟩:=h
  refine⟨_,(fb (fQ (i:=2) y3.nd rfl (Or.inl rfl) (iE (eW fw (eW (fj gW (hr.mono (by decide)) rfl fS.m fS.F.kp fS.b .nil fU (eW (pv 1) eX)) eX))))
 (fe (fz (fj h8 (hr.mono (by decide)) rfl gc.m gc.F.kp gc.b .nil fM (eW (pv 0) (eW (fj sS (hr.mono (by decide)) rfl mP.m mP.F.kp mP.b .nil fU (eW (fj gz (hr.mono (by decide)) rfl fJ.m fJ.F.kp fJ.b .nil fU (eW (pv 0) eX)) (eW (fj gi (hr.mono (by decide)) rfl fG.m fG.F.kp fG.b .nil fU (eW (pv 0) eX)) (eW (pv 2) eX)))) eX)))))),?_⟩
  refine⟨_,rfl,z,rfl,by omega,λe he H1 s1=>?_,λhn H1 s1 e he=>?_⟩
  rotate_left
  ·have q:dGo "on" S z=(.error 4,S):=by unfold dGo;rw[hn]
   rw[q]at kk
   exact kk.2 4 rfl c6 rfl H1 s1 e he
  have hq:dGo "on" S z=both S λl t=>match fnd (mvs l t) ("on",e)with |some b=>(.ok (txT b),(some l,some b))|none=>(.error 1,S):=by unfold dGo;rw[he]
  rw[hq]at kk
  refine⟨by show 2<=sizeLine;decide,λm nm=>?_⟩
  have s2:=s1.trans (eY (o:=.tup [.str "on",.int e]) nm)
  have hm:=eZ (H:=H1) (a:=m) (o:=.tup [.str "on",.int e])
  generalize upd H1 m _=H2 at s2 hm ⊢
  have hD:=hD.same s2
  have kk:=kk.same s2
  obtain⟨dx,v,u,hd,hv,hu⟩:=hD.at_
  refine⟨_,rfl,_,rfl,d,dx,v,u,rfl,hd,λvn=>?_,λvn H3 s3 e he=>?_⟩
  rotate_left
  ·rw[lN ((hZ hv).mp vn)]at kk
   exact kk.2 0 rfl c1 rfl H3 s3 e he
  obtain⟨l,hl⟩:∃ l,S.1=some l:=by
   cases q:S.1 with
   |none=>exact absurd ((hZ hv).mpr q) vn
   |some l=>exact⟨l,rfl⟩
  have il:=hS.l l hl
  have ok:=fW.ok il
  refine⟨_,rfl,d,dx,v,u,rfl,hd,λvn un=>?_,λvn'=>absurd vn' vn,λ_ un H3 s3 e he=>?_⟩
  rotate_left
  ·rw[mJ hl ((iP hu).mp un)]at kk
   exact kk.2 5 rfl c2 rfl H3 s3 e he
  obtain⟨t,ht⟩:∃ t,S.2=some t:=by
   cases q:S.2 with
   |none=>exact absurd ((iP hu).mpr q) un
   |some l=>exact⟨l,rfl⟩
  obtain⟨l',hl',it⟩:=hS.t t ht
  rw[hl]at hl'
  cases hl'
  rw[lM hl ht]at kk
  rw[hl]at hv
  rw[ht]at hu
  have hv:Da K (gm p H2) (dL l) v:=hv
  have hu:Da K (gm p H2) (dI t) u:=hu
  have oN:=isT.okN il it
  refine⟨_,rfl,v,u,.ref m,l,t,("on",e),rfl,Da.same fN hv,Da.same fN hu,gC.mpr ⟨m,_,rfl,SqT.of hm,Dgs.two (sD.mpr rfl) (gD.mpr rfl)⟩,(by first |exact kQ (.inl rfl)|exact kQ (.inr rfl)),ok,it.1,by have:=oN.1;omega,λb hb q H3 s3 nq hq3=>?_,λhn H3 s3 e he=>?_⟩
  ·rw[hb]at kk
   have hd3:=s3 _ _ hd
   have qd:q≠d:=bX (fu hd nq)
   obtain⟨mm,hmm,_,rfl⟩:∃ mm∈mvs l t,mm.1=(Str.ofString "on",e)/\mm.2=b:=by
    unfold fnd at hb
    obtain⟨mm,h1,h2⟩:=cx.mp hb
    exact⟨mm,cZ h1,by simpa using List.find?_some h1,h2⟩
   obtain⟨T2,l2,n2⟩:=yc ok it.2 it.1 hmm
   refine⟨d,dx,v,u,.ref q,_,rfl,hd3,gR (by rw[ow qd];exact hq3),isT.okN il ⟨n2,T2⟩,λH4 s4=>?_⟩
   have li3:=LI.same s3 hD.li
   refine kk.1 _ rfl H4 ((Oth.upd (fk.oth s3)).trans (fk.oth s4)) (Dsk.same ⟨⟨dx,v,.ref q,eZ,?_,?_⟩,hD.pd,LI.upd li3 (.inl ⟨_,_,_,rfl⟩)⟩ s4)
   ·rw[jw hD.pd]
    exact Da.same (hG s3) hv
   ·rw[jw hD.pd]
    refine gR ?_
    rw[gL]
    ·exact hq3
    ·intro z
     rcases hD.li q z with⟨_,_,_,e⟩|⟨_,e⟩<;>rw[nq]at e<;>cases e
  ·rw[hn]at kk
   exact kk.2 1 rfl c3 rfl H3 s3 e he
theorem AH (F:Fn K mg "go_back" rR ["desk","rest"] f fd)(fS:Fn K mg "read_end" jT ["text"] f1 fd1)(gW:fm P w K mg base (CXr P w base) 2 f1 fd1 ["text"] (qQ c6))
  (fJ:Fn K mg "kept_line" iM ["desk"] f2 fd2) (gz:fm P w K mg base (CXr P w base) 1 f2 fd2 ["desk"] (wH C c1)) (fG:Fn K mg "kept_train" iy ["desk"] f3 fd3) (gi:fm P w K mg base (CXr P w base) 2 f3 fd3 ["desk"] (wG C c1 c2))
  (mP:Fn K mg "done" uy ["line","train","move"] f4 fd4) (sS:fm P w K mg base (CXr P w base) 4 f4 fd4 ["line","train","move"] (xA K c3)) (gc:Fn K mg "keep_shown" jA ["desk","train"] f5 fd5) (h8:fm P w K mg base CX0 4 f5 fd5 ["desk","train"] (Bg K C)):
  fm P w K mg base (CXr P w base) 5 f fd ["desk","rest"] (lz K C [c1,c3,c4,c7,c6,c2,c5] 800 (dGo "back")):=by
 refine F.F.okX uw (λvs H Q E h=>?_) (λcdv A outer s H vs Q E hr h=>?_)
 ·obtain⟨d,z,S,p,rfl,_⟩:=h;rfl
 ·obtain⟨d,z,S,p,rfl,hD,hS,hz,kk⟩:=h
  refine⟨_,(fb (fQ (i:=2) uw.nd rfl (Or.inl rfl) (iE (eW fw (eW (fj gW (hr.mono (by decide)) rfl fS.m fS.F.kp fS.b .nil fU (eW (pv 1) eX)) eX))))
 (fe (fz (fj h8 (hr.mono (by decide)) rfl gc.m gc.F.kp gc.b .nil fM (eW (pv 0) (eW (fj sS (hr.mono (by decide)) rfl mP.m mP.F.kp mP.b .nil fU (eW (fj gz (hr.mono (by decide)) rfl fJ.m fJ.F.kp fJ.b .nil fU (eW (pv 0) eX)) (eW (fj gi (hr.mono (by decide)) rfl fG.m fG.F.kp fG.b .nil fU (eW (pv 0) eX)) (eW (pv 2) eX)))) eX)))))),?_⟩
  refine⟨_,rfl,z,rfl,by omega,λe he H1 s1=>?_,λhn H1 s1 e he=>?_⟩
  rotate_left
  ·have q:dGo "back" S z=(.error 4,S):=by unfold dGo;rw[hn]
   rw[q]at kk
   exact kk.2 4 rfl c6 rfl H1 s1 e he
  have hq:dGo "back" S z=both S λl t=>match fnd (mvs l t) ("back",e)with |some b=>(.ok (txT b),(some l,some b))|none=>(.error 1,S):=by unfold dGo;rw[he]
  rw[hq]at kk
  refine⟨by show 2<=sizeLine;decide,λm nm=>?_⟩
  have s2:=s1.trans (eY (o:=.tup [.str "back",.int e]) nm)
  have hm:=eZ (H:=H1) (a:=m) (o:=.tup [.str "back",.int e])
  generalize upd H1 m _=H2 at s2 hm ⊢
  have hD:=hD.same s2
  have kk:=kk.same s2
  obtain⟨dx,v,u,hd,hv,hu⟩:=hD.at_
  refine⟨_,rfl,_,rfl,d,dx,v,u,rfl,hd,λvn=>?_,λvn H3 s3 e he=>?_⟩
  rotate_left
  ·rw[lN ((hZ hv).mp vn)]at kk
   exact kk.2 0 rfl c1 rfl H3 s3 e he
  obtain⟨l,hl⟩:∃ l,S.1=some l:=by
   cases q:S.1 with
   |none=>exact absurd ((hZ hv).mpr q) vn
   |some l=>exact⟨l,rfl⟩
  have il:=hS.l l hl
  have ok:=fW.ok il
  refine⟨_,rfl,d,dx,v,u,rfl,hd,λvn un=>?_,λvn'=>absurd vn' vn,λ_ un H3 s3 e he=>?_⟩
  rotate_left
  ·rw[mJ hl ((iP hu).mp un)]at kk
   exact kk.2 5 rfl c2 rfl H3 s3 e he
  obtain⟨t,ht⟩:∃ t,S.2=some t:=by
   cases q:S.2 with
   |none=>exact absurd ((iP hu).mpr q) un
   |some l=>exact⟨l,rfl⟩
  obtain⟨l',hl',it⟩:=hS.t t ht
  rw[hl]at hl'
  cases hl'
  rw[lM hl ht]at kk
  rw[hl]at hv
  rw[ht]at hu
  have hv:Da K (gm p H2) (dL l) v:=hv
  have hu:Da K (gm p H2) (dI t) u:=hu
  have oN:=isT.okN il it
  refine⟨_,rfl,v,u,.ref m,l,t,("back",e),rfl,Da.same fN hv,Da.same fN hu,gC.mpr ⟨m,_,rfl,SqT.of hm,Dgs.two (sD.mpr rfl) (gD.mpr rfl)⟩,(by first |exact kQ (.inl rfl)|exact kQ (.inr rfl)),ok,it.1,by have:=oN.1;omega,λb hb q H3 s3 nq hq3=>?_,λhn H3 s3 e he=>?_⟩
  ·rw[hb]at kk
   have hd3:=s3 _ _ hd
   have qd:q≠d:=bX (fu hd nq)
   obtain⟨mm,hmm,_,rfl⟩:∃ mm∈mvs l t,mm.1=(Str.ofString "back",e)/\mm.2=b:=by
    unfold fnd at hb
    obtain⟨mm,h1,h2⟩:=cx.mp hb
    exact⟨mm,cZ h1,by simpa using List.find?_some h1,h2⟩
   obtain⟨T2,l2,n2⟩:=yc ok it.2 it.1 hmm
   refine⟨d,dx,v,u,.ref q,_,rfl,hd3,gR (by rw[ow qd];exact hq3),isT.okN il ⟨n2,T2⟩,λH4 s4=>?_⟩
   have li3:=LI.same s3 hD.li
   refine kk.1 _ rfl H4 ((Oth.upd (fk.oth s3)).trans (fk.oth s4)) (Dsk.same ⟨⟨dx,v,.ref q,eZ,?_,?_⟩,hD.pd,LI.upd li3 (.inl ⟨_,_,_,rfl⟩)⟩ s4)
   ·rw[jw hD.pd]
    exact Da.same (hG s3) hv
   ·rw[jw hD.pd]
    refine gR ?_
    rw[gL]
    ·exact hq3
    ·intro z
     rcases hD.li q z with⟨_,_,_,e⟩|⟨_,e⟩<;>rw[nq]at e<;>cases e
  ·rw[hn]at kk
   exact kk.2 1 rfl c3 rfl H3 s3 e he
theorem v5 (F:Fn K mg "tell_train" n8 ["desk"] f fd)(gS:Fn K mg "show_train" jy ["train"] f1 fd1)(jD:fm P w K mg base CX0 3 f1 fd1 ["train"] (nF K))(fG:Fn K mg "kept_train" iy ["desk"] f3 fd3)(gi:fm P w K mg base (CXr P w base) 2 f3 fd3 ["desk"] (wG C c1 c2)):
  fm P w K mg base (CXr P w base) 4 f fd ["desk"] (nG K C [c1,c3,c4,c7,c6,c2,c5] xg):=by
 refine F.F.okX vR (λvs H Q E h=>?_) (λcdv A outer s H vs Q E hr h=>?_)
 ·obtain⟨d,S,p,rfl,_⟩:=h;rfl
 ·obtain⟨d,S,p,rfl,hD,hS,kk⟩:=h
  unfold xg at kk
  obtain⟨dx,v,u,hd,hv,hu⟩:=hD.at_
  refine⟨_,(fe (fz (fj jD (hr.mono (by decide)) rfl gS.m gS.F.kp gS.b .nil fM (eW (fj gi (hr.mono (by decide)) rfl fG.m fG.F.kp fG.b .nil fU (eW (pv 0) eX)) eX)))),?_⟩
  refine⟨_,rfl,d,dx,v,u,rfl,hd,λvn un=>?_,λvn H3 s3 e he=>?_,λvn un H3 s3 e he=>?_⟩
  rotate_left
  ·rw[lN ((hZ hv).mp vn)]at kk
   exact kk.2 0 rfl c1 rfl H3 s3 e he
  ·obtain⟨l,hl⟩:∃ l,S.1=some l:=by
    cases q:S.1 with
    |none=>exact absurd ((hZ hv).mpr q) vn
    |some l=>exact⟨l,rfl⟩
   rw[mJ hl ((iP hu).mp un)]at kk
   exact kk.2 5 rfl c2 rfl H3 s3 e he
  obtain⟨t,ht⟩:∃ t,S.2=some t:=by
   cases q:S.2 with
   |none=>exact absurd ((iP hu).mpr q) un
   |some l=>exact⟨l,rfl⟩
  obtain⟨l,hl,it⟩:=hS.t t ht
  have il:=hS.l l hl
  rw[lM hl ht]at kk
  have hu0:=hu
  rw[ht]at hu
  have hu:Da K (gm p H) (dI t) u:=hu
  have oN:=isT.okN il it
  refine⟨u,t,rfl,Da.same fN hu,oN,λH1 s1=>kk.1 _ rfl H1 (fk.oth s1) (hD.same s1)⟩
theorem v3 (F:Fn K mg "turn_round" n6 ["desk"] f fd)(fG:Fn K mg "kept_train" iy ["desk"] f3 fd3)(gi:fm P w K mg base (CXr P w base) 2 f3 fd3 ["desk"] (wG C c1 c2))(nS:Fn K mg "turned" pb ["train"] f4 fd4)(vL:fm P w K mg base CX0 2 f4 fd4 ["train"] (qP K))(gc:Fn K mg "keep_shown" jA ["desk","train"] f5 fd5)(h8:fm P w K mg base CX0 4 f5 fd5 ["desk","train"] (Bg K C)):
  fm P w K mg base (CXr P w base) 5 f fd ["desk"] (nG K C [c1,c3,c4,c7,c6,c2,c5] sE):=by
 refine F.F.okX vQ (λvs H Q E h=>?_) (λcdv A outer s H vs Q E hr h=>?_)
 ·obtain⟨d,S,p,rfl,_⟩:=h;rfl
 ·obtain⟨d,S,p,rfl,hD,hS,kk⟩:=h
  unfold sE at kk
  obtain⟨dx,v,u,hd,hv,hu⟩:=hD.at_
  refine⟨_,(fe (fz (fj h8 (hr.mono (by decide)) rfl gc.m gc.F.kp gc.b .nil fM (eW (pv 0) (eW (fj vL (hr.mono (by decide)) rfl nS.m nS.F.kp nS.b .nil fM (eW (fj gi (hr.mono (by decide)) rfl fG.m fG.F.kp fG.b .nil fU (eW (pv 0) eX)) eX)) eX))))),?_⟩
  refine⟨_,rfl,?_⟩
  refine⟨_,rfl,d,dx,v,u,rfl,hd,λvn un=>?_,λvn H3 s3 e he=>?_,λvn un H3 s3 e he=>?_⟩
  rotate_left
  ·rw[lN ((hZ hv).mp vn)]at kk
   exact kk.2 0 rfl c1 rfl H3 s3 e he
  ·obtain⟨l,hl⟩:∃ l,S.1=some l:=by
    cases q:S.1 with
    |none=>exact absurd ((hZ hv).mpr q) vn
    |some l=>exact⟨l,rfl⟩
   rw[mJ hl ((iP hu).mp un)]at kk
   exact kk.2 5 rfl c2 rfl H3 s3 e he
  obtain⟨t,ht⟩:∃ t,S.2=some t:=by
   cases q:S.2 with
   |none=>exact absurd ((iP hu).mpr q) un
   |some l=>exact⟨l,rfl⟩
  obtain⟨l,hl,it⟩:=hS.t t ht
  have il:=hS.l l hl
  rw[lM hl ht]at kk
  have hu0:=hu
  rw[ht]at hu
  have hu:Da K (gm p H) (dI t) u:=hu
  have oN:=isT.okN il it
  refine⟨u,t,rfl,Da.same fN hu,by have:=oN.1;omega,λq H3 s3 nq hq3=>?_⟩
  have hd3:=s3 _ _ hd
  have qd:q≠d:=bX (fu hd nq)
  have ok:=fW.ok il
  have T2:isT l (t.reverse.map oth):=⟨by simpa using it.1,rN ok it.2⟩
  refine⟨d,dx,v,u,.ref q,_,rfl,hd3,gR (by rw[ow qd];exact hq3),isT.okN il T2,λH4 s4=>?_⟩
  have li3:=LI.same s3 hD.li
  refine kk.1 _ rfl H4 ((Oth.upd (fk.oth s3)).trans (fk.oth s4)) (Dsk.same ⟨⟨dx,v,.ref q,eZ,?_,?_⟩,hD.pd,LI.upd li3 (.inl ⟨_,_,_,rfl⟩)⟩ s4)
  ·rw[jw hD.pd]
   rw[hl]at hv
   exact VL.same (hG s3) hv
  ·rw[jw hD.pd]
   refine gR ?_
   rw[gL]
   ·exact hq3
   ·intro z
    rcases hD.li q z with⟨_,_,_,e⟩|⟨_,e⟩<;>rw[nq]at e<;>cases e
theorem v7 (F:Fn K mg "tell_moves" lU ["desk"] f fd)(lh:Fn K mg "show_run" mr ["run"] f1 fd1)(qF:fm P w K mg base CX0 3 f1 fd1 ["run"] (qO K))(fJ:Fn K mg "kept_line" iM ["desk"] f2 fd2)(gz:fm P w K mg base (CXr P w base) 1 f2 fd2 ["desk"] (wH C c1))(fG:Fn K mg "kept_train" iy ["desk"] f3 fd3)(gi:fm P w K mg base (CXr P w base) 2 f3 fd3 ["desk"] (wG C c1 c2))(ip:Fn K mg "moves_of" mz ["line","train"] f4 fd4)(kY:fm P w K mg base CX0 3 f4 fd4 ["line","train"] (rQ K)):
  fm P w K mg base (CXr P w base) 4 f fd ["desk"] (nG K C [c1,c3,c4,c7,c6,c2,c5] sF):=by
 refine F.F.okX vS (λvs H Q E h=>?_) (λcdv A outer s H vs Q E hr h=>?_)
 ·obtain⟨d,S,p,rfl,_⟩:=h;rfl
 ·obtain⟨d,S,p,rfl,hD,hS,kk⟩:=h
  unfold sF at kk
  obtain⟨dx,v,u,hd,hv,hu⟩:=hD.at_
  refine⟨_,(fe (fz (fj qF (hr.mono (by decide)) rfl lh.m lh.F.kp lh.b .nil fM (eW (nL (gg (fj kY (hr.mono (by decide)) rfl ip.m ip.F.kp ip.b .nil fM (eW (fj gz (hr.mono (by decide)) rfl fJ.m fJ.F.kp fJ.b .nil fU (eW (pv 0) eX)) (eW (fj gi (hr.mono (by decide)) rfl fG.m fG.F.kp fG.b .nil fU (eW (pv 0) eX)) eX)))) rfl lK (.tup (.cons (.name (by decide)) (.cons (.name (by decide)) .nil))) (λ_ _ _ _=>(jr (n:=2) rfl (fH (ft (i:=0) lK.nd rfl (Or.inl rfl)) (fH (ft (i:=1) lK.nd rfl (Or.inl rfl)) g9)))) (λ_ _ _ _=>gZ) (λ_ _ _ _=>(pv 0))) eX)))),?_⟩
  refine⟨_,rfl,d,dx,v,u,rfl,hd,λvn=>?_,λvn H3 s3 e he=>?_⟩
  rotate_left
  ·rw[lN ((hZ hv).mp vn)]at kk
   exact kk.2 0 rfl c1 rfl H3 s3 e he
  refine⟨_,rfl,d,dx,v,u,rfl,hd,λvn un=>?_,λvn H3 s3 e he=>?_,λvn un H3 s3 e he=>?_⟩
  rotate_left
  ·rw[lN ((hZ hv).mp vn)]at kk
   exact kk.2 0 rfl c1 rfl H3 s3 e he
  ·obtain⟨l,hl⟩:∃ l,S.1=some l:=by
    cases q:S.1 with
    |none=>exact absurd ((hZ hv).mpr q) vn
    |some l=>exact⟨l,rfl⟩
   rw[mJ hl ((iP hu).mp un)]at kk
   exact kk.2 5 rfl c2 rfl H3 s3 e he
  obtain⟨t,ht⟩:∃ t,S.2=some t:=by
   cases q:S.2 with
   |none=>exact absurd ((iP hu).mpr q) un
   |some l=>exact⟨l,rfl⟩
  obtain⟨l,hl,it⟩:=hS.t t ht
  have il:=hS.l l hl
  rw[lM hl ht]at kk
  have hu0:=hu
  rw[ht]at hu
  have hu:Da K (gm p H) (dI t) u:=hu
  have oN:=isT.okN il it
  have hv0:=hv
  rw[hl]at hv
  have hv:Da K (gm p H) (dL l) v:=hv
  have ok:=fW.ok il
  refine⟨v,u,l,t,rfl,Da.same fN hv,Da.same fN hu,ok,it.1,by have:=oN.1;omega,λpm vm H1 s1 npm hpm Dm=>?_⟩
  have ml:=ua ok t
  refine⟨pm,rfl,⟨_,SqL.of hpm⟩,λq nq=>va (K:=K) hpm Dm (by omega) nq λus H2 s2 hq2 D2=>?_⟩
  refine⟨.ref q,(mvs l t).map (·.1),rfl,jg.mpr ⟨q,us,rfl,SqL.of hq2,Das.same (pF (p:=q)) D2⟩,⟨by rw[aa];omega,λk hk=>?_⟩,λH3 s3=>kk.1 _ rfl H3 (fk.oth (s1.trans (s2.trans s3))) (hD.same (s1.trans (s2.trans s3)))⟩
  obtain⟨m,hm,rfl⟩:=aH.mp hk
  obtain⟨w1,w2,w3⟩:=sh ok hm
  exact⟨w1,w2,by have:=il.2.1;omega⟩
end
noncomputable def words:List Str:=["line","move","piece","row","text","train","many"]
noncomputable def Bh (cs:List Addr):Sp:=λvs H Q _=>∃ (e c:Addr) (j:Nat) (x:Str),vs = [.ref e]/\H e=some (A2 e c)/\cs[j]? = some c/\words[j]? = some x/\∀ H',fk H H'->Q (.str x) H'
noncomputable def Bi (C:Addr):Sp:=λvs H Q _=>∃ x dx:Addr,vs = [.ref x]/\H x=some (.ins C dx [])/\Q .non (upd H x (.ins C dx [("line",.non),("train",.non)]))
noncomputable abbrev prt (row:Str):=Txt.partition row (chS 32)
noncomputable def Ar (P:Program)(w:World)(K:PySem.W.Frag)(mg:Str->Option Value)(base:Heap)(kr ka:List (Str×Addr))(c7:Addr):Sp:=λvs H Q E=>∃ (d:Addr) (row:Str),vs = [.ref d,.str row]/\row.length<=100000/\
 (∀ f,(prt row).2.2≠Str.empty->ma kr (prt row).1=some f->∃ sp,FnV P w K mg base (CXr P w base) 7 f sp/\∀ H',fk H H'->sp [.ref d,.str (prt row).2.2] H' Q E)/\
 (∀ f,((prt row).2.2=Str.empty\/ma kr (prt row).1=none)->(prt row).2.1=Str.empty->ma ka (prt row).1=some f->∃ sp,FnV P w K mg base (CXr P w base) 7 f sp/\∀ H',fk H H'->sp [.ref d] H' Q E)/\
 (((prt row).2.2=Str.empty\/ma kr (prt row).1=none)->((prt row).2.1≠Str.empty\/ma ka (prt row).1=none)->∀ H',fk H H'->∀ e,H' e=none->E (.ref c7) (some e) H')
theorem Ao {z:Str} :((z.length:Int) !=0)=true↔z≠Str.empty:=by
 constructor
 ·intro h e;rw[e]at h;revert h;decide
 ·intro h
  have:z.length≠0:=λe=>h (nW (by rw[xt.mp e];rfl))
  simpa using this
theorem Fw (row:Str):(prt row).1.length<=row.length/\(prt row).2.1.length<=row.length/\(prt row).2.2.length<=row.length:=by
 have h:=cg Str.length (PySem.StrLaws.partition_sum row (chS 32))
 rw[aB,aB]at h
 show(Txt.partition row (chS 32)).1.length<=_/\(Txt.partition row (chS 32)).2.1.length<=_/\(Txt.partition row (chS 32)).2.2.length<=_
 exact⟨by omega,by omega,by omega⟩
noncomputable abbrev oi:Stmt:=top 98
theorem o9:fC ["_law_kept","_law_some"] ["_law_kept"] (fh oi):=⟨rfl,rfl,rfl,by decide +kernel,rfl,by decide +kernel,by decide +kernel⟩
noncomputable abbrev iz:Stmt:=inClass (top 83) 0
theorem xJ:fC ["self"] ["self"] (fh iz):=⟨rfl,rfl,rfl,by decide +kernel,rfl,by decide +kernel,by decide +kernel⟩
noncomputable abbrev iR:Stmt:=inClass (top 83) 1
theorem jY:fC ["self","row","word","blank","rest","deed","lone_deed"] ["self","row"] (fh iR):=⟨rfl,rfl,rfl,by decide +kernel,rfl,by decide +kernel,by decide +kernel⟩
section
variable {P:Program}{w:World}{K:PySem.W.Frag}{mg:Str->Option Value}{base:Heap}{f:Addr}{fd:FuncData}{D c1 c2 c3 c4 c5 c6 c7 C fi fs oa or_:Addr}{kr ka:List (Str×Addr)}
theorem HR (XS:Xs K mg D c1 c2 c3 c4 c5 c6 c7):∀ c∈ [c1,c3,c4,c7,c6,c2,c5],ExC K c:=λc hc=>by
 simp only[aI,bP,dq]at hc
 rcases hc with rfl |rfl |rfl |rfl |rfl |rfl |rfl
 ·exact XS.je.e
 ·exact XS.sQ.e
 ·exact XS.B3.e
 ·exact XS.BZ.e
 ·exact XS.kL.e
 ·exact XS.ji.e
 ·exact XS.BV.e
theorem yr:[c1,c3,c4,c7,c6,c2,c5].Perm [c1,c2,c3,c4,c5,c6,c7]:=by
 refine List.Perm.cons _ ?_
 have h1:[c3,c4,c7,c6,c2,c5].Perm (c2 :: [c3,c4,c7,c6,c5]):=cW (l₁:=[c3,c4,c7,c6]) (l₂:=[c5])
 refine h1.trans (List.Perm.cons _ (List.Perm.cons _ (List.Perm.cons _ ?_)))
 have h2:[c7,c6,c5].Perm (c5 :: [c7,c6]):=cW (l₁:=[c7,c6]) (l₂:=[])
 exact h2.trans (List.Perm.cons _ (List.Perm.swap _ _ _))
theorem bits {cs:List Addr}(nd:cs.Nodup){c:Addr}{j:Nat}(hj:cs[j]? = some c):cs.map (λd=>decide (c=d))=(List.range cs.length).map λi=>decide (i=j):=by
 refine List.ext_getElem? λi=>?_
 rw[aq,aq]
 by_cases hi:i<cs.length
 ·rw[List.getElem?_range hi,ao hi]
  obtain⟨hl,e⟩:=af.mp hj
  show some (decide (c=cs[i]))=some (decide (i=j))
  congr 1
  by_cases h:i=j
  ·subst h;simp[e]
  ·have:c≠cs[i]:=λz=>h ((List.getElem_inj nd).mp (z.symm.trans e.symm))
   simp[h,this]
 ·rw[List.getElem?_eq_none (by omega),List.getElem?_eq_none (by simpa using hi)];rfl
theorem bit_count:∀ j,j<7->((List.range 7).map λi=>decide (i=j)).count true=1:=by decide
theorem HX:∀ j,j<7->((List.range 7).map λi=>decide (i=j))[j]? = some true:=by decide
theorem HW:∀ j,j<7->∀ m,m<j->((List.range 7).map λi=>decide (i=j))[m]? = some false:=by decide
theorem zu (F:Fn K mg "_law_kind" oi ["_law_kept"] f fd)(XS:Xs K mg D c1 c2 c3 c4 c5 c6 c7)(B:Bl mg):fm P w K mg base CX0 1 f fd ["_law_kept"] (Bh [c1,c3,c4,c7,c6,c2,c5]):=by
 refine F.F.ok o9 (λvs H Q E h=>?_) (λcdv A outer s H vs Q E hr h=>?_)
 ·obtain⟨e,c,j,x,rfl,_⟩:=h;rfl
 ·obtain⟨e,c,j,x,rfl,he,hc,hx,q⟩:=h
  have hm0:c∈ [c1,c3,c4,c7,c6,c2,c5]:=aD hc
  have hm:c∈ [c1,c2,c3,c4,c5,c6,c7]:=yr.mem_iff.mp hm0
  have hj:j<7:=(af.mp hc).1
  have hE:=HR XS c hm0
  have k1:=XS.eq c hm
  have hb:=bits (yr.nodup_iff.mpr XS.nd) hc
  refine⟨_,(fb (gf (gw (rX (pv 0)))
 (fe (fz fw)) fD)
 (fb (fQ (i:=1) o9.nd rfl (Or.inl rfl) (gB (eW (gd iC rfl B.isinstance cz (eW (pv 0) (eW (jB (v:=.ref _) rfl XS.je.m rfl) eX))) (eW (gd iC rfl B.isinstance cz (eW (pv 0) (eW (jB (v:=.ref _) rfl XS.sQ.m rfl) eX))) (eW (gd iC rfl B.isinstance cz (eW (pv 0) (eW (jB (v:=.ref _) rfl XS.B3.m rfl) eX))) (eW (gd iC rfl B.isinstance cz (eW (pv 0) (eW (jB (v:=.ref _) rfl XS.BZ.m rfl) eX))) eX))))))
 (fb (fQ (i:=1) o9.nd rfl (Or.inl rfl) (fo oo (pv 1) (gB (eW (gd iC rfl B.isinstance cz (eW (pv 0) (eW (jB (v:=.ref _) rfl XS.kL.m rfl) eX))) (eW (gd iC rfl B.isinstance cz (eW (pv 0) (eW (jB (v:=.ref _) rfl XS.ji.m rfl) eX))) (eW (gd iC rfl B.isinstance cz (eW (pv 0) (eW (jB (v:=.ref _) rfl XS.BV.m rfl) eX))) eX))))))
 (fb (gf (PW.pt (uC (gG zi (lQ bJ PySem.F.slot_list_count PySem.F.type_list_count Ei (pv 1) (eW pB eX)) fc (iS _)) (rT (kT (ni (gd iC rfl B.isinstance cz (eW (pv 0) (eW (Br (v:=.ty "ValueError") rfl XS.VE tZ rfl) eX))))))))
 (fe (fz fw)) fD)
 (fe (fz (gr gh (gB (eW fw (eW fw (eW fw (eW fw (eW fw (eW fw (eW fw eX)))))))) (lQ bJ PySem.F.slot_list_index PySem.F.type_list_index Eh (pv 1) (eW pB eX)) (λ_ _=>rfl)))))))),?_⟩
  refine⟨_,rfl,_,rfl,rk ?_⟩
  refine⟨_,rfl,e,c,_,_,_,rfl,he,hE,rfl,λ_ h=>h,k1 c1 (by simp),_,rfl,e,c,_,_,_,rfl,he,hE,rfl,λ_ h=>h,k1 c3 (by simp),_,rfl,e,c,_,_,_,rfl,he,hE,rfl,λ_ h=>h,k1 c4 (by simp),
   _,rfl,e,c,_,_,_,rfl,he,hE,rfl,λ_ h=>h,k1 c7 (by simp),by show 4<=sizeLine;decide,λp1 n1=>?_⟩
  have s1:=eY (o:=.lst [.bl (decide (c=c1)),.bl (decide (c=c3)),.bl (decide (c=c4)),.bl (decide (c=c7))]) n1
  refine⟨_,rfl,_,rfl,e,c,_,_,_,rfl,s1 _ _ he,hE,rfl,λ_ h=>h,k1 c6 (by simp),_,rfl,e,c,_,_,_,rfl,s1 _ _ he,hE,rfl,λ_ h=>h,k1 c2 (by simp),_,rfl,e,c,_,_,_,rfl,s1 _ _ he,hE,rfl,λ_ h=>h,k1 c5 (by simp),
   by show 3<=sizeLine;decide,λp2 n2=>?_⟩
  have s2:=eY (o:=.lst [.bl (decide (c=c6)),.bl (decide (c=c2)),.bl (decide (c=c5))]) n2
  refine⟨p1,p2,_,_,rfl,rfl,s2 _ _ eZ,eZ,by show 7<=sizeLine;decide,λp3 n3=>?_⟩
  have S12:=s1.trans s2
  generalize upd (upd H p1 _) p2 _=G at n3 S12 ⊢
  have s3:=eY (o:=.lst (([c1,c3,c4,c7,c6,c2,c5].map λd=>decide (c=d)).map V.bl)) n3
  have hp3:upd G p3 (.lst (([c1,c3,c4,c7,c6,c2,c5].map λd=>decide (c=d)).map V.bl)) p3=some (.lst (((List.range 7).map λi=>decide (i=j)).map V.bl)):=by
   rw[eZ,hb];rfl
  have S:=S12.trans s3
  refine⟨_,rfl,.inl ⟨rfl,_,SqL.of hp3⟩,p3,_,true,rfl,rfl,hp3,rfl,_,rfl,fY (λz=>?_) (λ_=>?_)⟩
  ·have OP:=bit_count j hj
   exact absurd z (by
    show ¬((!decide (V.int (((((List.range 7).map λi=>decide (i=j)).count true:Nat)):Int)=V.int 1))=true)
    rw[OP];simp)
  refine⟨_,rfl,e,c,_,_,true,rfl,S _ _ he,hE,rfl,λ_ h=>h,XS.val c hm,_,rfl,rk ?_⟩
  refine⟨by show 7<=sizeLine;decide,λp4 n4=>?_⟩
  have s4:=eY (o:=.lst [.str "line",.str "move",.str "piece",.str "row",.str "text",.str "train",.str "many"]) n4
  refine⟨_,rfl,.inl ⟨rfl,_,SqL.of (s4 _ _ hp3)⟩,p3,_,true,j,rfl,rfl,s4 _ _ hp3,HX j hj,HW j hj,?_⟩
  refine⟨p4,_,_,_,rfl,rfl,SqL.of eZ,?_,q _ (S.trans s4)⟩
  have e:[V.str "line",.str "move",.str "piece",.str "row",.str "text",.str "train",.str "many"][j]? = some (V.str x):=by
   have e:[V.str "line",.str "move",.str "piece",.str "row",.str "text",.str "train",.str "many"]=words.map V.str:=rfl
   rw[e,aq,hx];rfl
  exact jS e
theorem ya (F:Fm K "__init__" "Desk.__init__" iz ["self"] f fd)(DK:DkK K mg C fi fs):fm P w K mg base CX0 1 f fd ["self"] (Bi C):=by
 refine F.F.ok xJ (λvs H Q E h=>?_) (λcdv A outer s H vs Q E hr h=>?_)
 ·obtain⟨x,dx,rfl,_⟩:=h;rfl
 ·obtain⟨x,dx,rfl,hx,k⟩:=h
  refine⟨_,(fb (rV (pv 0) lH rfl)
 (fe (rV (pv 0) lH rfl))),?_⟩
  refine⟨_,rfl,x,C,dx,_,rfl,hx,DK.cl,DK.nl,by show 0<1000;decide,?_⟩
  refine⟨_,rfl,x,C,dx,_,rfl,eZ,DK.cl,DK.nt,by show 1<1000;decide,?_⟩
  have h:¬(Str.ofString "line")=Str.ofString "train" :=by decide +kernel
  have e:lG "train" V.non (lG "line" V.non []) = [(Str.ofString "line",.non),(Str.ofString "train",.non)]:=by
   show lG "train" V.non [(Str.ofString "line",V.non)]=_
   unfold lG
   rw[au h]
   rfl
  rw[e,nU]
  exact k
theorem zv (F:Fm K "say" "Desk.say" iR ["self","row"] f fd)(XS:Xs K mg D c1 c2 c3 c4 c5 c6 c7)(m7:A8 P w K mg "WITH_REST" or_ kr)(Ak:(or_==sysModules)=false)(uf:A8 P w K mg "ALONE" oa ka)(Gb:(oa==sysModules)=false):
  fm P w K mg base (CXr P w base) 8 f fd ["self","row"] (Ar P w K mg base kr ka c7):=by
 refine F.F.okX jY (λvs H Q E h=>?_) (λcdv A outer s H vs Q E hr h=>?_)
 ·obtain⟨d,row,rfl,_⟩:=h;rfl
 ·obtain⟨d,row,rfl,hl,k1,k2,k3⟩:=h
  refine⟨_,(fb (mD (lQ bO PySem.F.slot_str_partition PySem.F.type_str_partition yd (pv 1) (eW fw eX)) (jr (n:=3) rfl (fH (ft (i:=2) jY.nd rfl (Or.inl rfl)) (fH (ft (i:=3) jY.nd rfl (Or.inl rfl)) (fH (ft (i:=4) jY.nd rfl (Or.inl rfl)) g9)))))
 (fb (gf (PW.pt (uD (pA (pv 4) (λ_=>rfl)) (qY (gw (Bt m7 Ak rfl (pv 2))))))
 (fb (fQ (i:=5) jY.nd rfl (Or.inl rfl) (Gn m7 rfl (pv 2) (λ_ _=>rfl)))
 (fe (fz (zf (k:=7) 5 rfl (Or.inl rfl) (hr.mono (by decide)) fU (eW (pv 0) (eW (pv 4) eX)))))) fD)
 (fb (gf (PW.pt (uD (kT (pA (pv 3) (λ_=>rfl))) (qY (gw (Bt uf Gb rfl (pv 2))))))
 (fb (fQ (i:=6) jY.nd rfl (Or.inl rfl) (Gn uf rfl (pv 2) (λ_ _=>rfl)))
 (fe (fz (zf (k:=7) 6 rfl (Or.inl rfl) (hr.mono (by decide)) fU (eW (pv 0) eX))))) fD)
 (fe (gN gu rfl rfl XS.BZ.m XS.BZ.q aG (eW fw eX)))))),?_⟩
  refine⟨_,rfl,rfl,_,_,rfl,rfl,by decide,by omega,λp np=>?_⟩
  rw[kJ]
  have s1:=eY (o:=.tup [.str (prt row).1,.str (prt row).2.1,.str (prt row).2.2]) np
  have hp:=eZ (H:=H) (a:=p) (o:=.tup [.str (prt row).1,.str (prt row).2.1,.str (prt row).2.2])
  generalize upd H p _=H1 at s1 hp ⊢
  refine⟨p,_,rfl,SqT.of hp,rfl,_,_,rfl,_,_,rfl,_,_,rfl,rfl,?_⟩
  obtain⟨p1,p2,p3⟩:=Fw row
  have l3:(prt row).2.2.length<=sizeLine:=by rw[aM];omega
  have l2:(prt row).2.1.length<=sizeLine:=by rw[aM];omega
  refine⟨_,rfl,_,⟨l3,rfl⟩,fY (λh1=>⟨_,rfl,_,rfl,_,rfl,fY (λh2=>?A) (λh2=>?B)⟩) (λh1=>rk ?C)⟩
  case A=>
   obtain⟨g,hg⟩:=eS.mp h2
   obtain⟨sp,FV,hs⟩:=k1 g (Ao.mp h1) hg
   exact⟨_,rfl,_,g,rfl,hg,g,sp,rfl,FV,_,rfl,_,rfl,hs _ s1⟩
  all_goals
   have hno:(prt row).2.2=Str.empty\/ma kr (prt row).1=none:=by
    first
    |exact .inr (by simpa using h2)
    |exact .inl (bB λz=>h1 (Ao.mpr z))
   refine⟨_,rfl,_,⟨l2,rfl⟩,fY (λh3=>⟨_,rfl,_,rfl,_,rfl,fY (λh4=>?_) (λh4=>?_)⟩) (λh3=>rk ?_)⟩
   ·obtain⟨g,hg⟩:=eS.mp h4
    have h3:(prt row).2.1=Str.empty:=bB λz=>by rw[Ao.mpr z]at h3;cases h3
    obtain⟨sp,FV,hs⟩:=k2 g hno h3 hg
    exact⟨_,rfl,_,g,rfl,hg,g,sp,rfl,FV,_,rfl,hs _ s1⟩
   ·exact⟨by decide,λe he=>k3 hno (.inr (by simpa using h4)) _ s1 e he⟩
   ·exact⟨by decide,λe he=>k3 hno (.inl λz=>h3 (by rw[z];decide)) _ s1 e he⟩
end
noncomputable def txA:Except Nat Str->Str
 |.ok a=>a
 |.error j=>Str.ofString "!" ++ words.getD j Str.empty
noncomputable def BW (P:Program)(w:World)(K:PySem.W.Frag)(mg:Str->Option Value)(base:Heap)(kr ka:List (Str×Addr))(c7 C:Addr)(cs:List Addr)(H:Hp)(d:Addr)(p:Addr->Prop)(row:Str)(r:Ans):Prop:=
 ∀ H' Q E,fk H H'->Dl K C cs H' d Q E p r->Ar P w K mg base kr ka c7 [.ref d,.str row] H' Q E
noncomputable def xw (P:Program)(w:World)(K:PySem.W.Frag)(mg:Str->Option Value)(base:Heap)(kr ka:List (Str×Addr))(c7 C:Addr)(cs:List Addr):Sp:=λvs H Q _=>∃ (d:Addr) (row:Str) (S:DS) (p:Addr->Prop) (r:Ans),vs = [.ref d,.str row]/\Dsk K C p H d S/\BW P w K mg base kr ka c7 C cs H d p row r/\
 (∀ j,r.1 = .error j->j<7/\r.2=S)/\∀ H',Oth d H H'->Dsk K C p H' d r.2->Q (.str (txA r.1)) H'
noncomputable abbrev mB:Stmt:=top 99
theorem jX:fC ["_law_desk","_law_row","_law_kept","_law_found","e"] ["_law_desk","_law_row"] (fh mB):=⟨rfl,rfl,rfl,by decide +kernel,rfl,by decide +kernel,by decide +kernel⟩
section
variable {P:Program}{w:World}{K:PySem.W.Frag}{mg:Str->Option Value}{base:Heap}{f:Addr}{fd:FuncData}{D c1 c2 c3 c4 c5 c6 c7 C fi fs oa or_:Addr}{kr ka:List (Str×Addr)}
theorem zr {fds:FuncData}(F:Fn K mg "_law_said" mB ["_law_desk","_law_row"] f fd)(XS:Xs K mg D c1 c2 c3 c4 c5 c6 c7)(B:Bm mg)(DK:DkK K mg C fi fs)(oR:Fm K "say" "Desk.say" iR ["self","row"] fs fds)
  (qG:fm P w K mg base (CXr P w base) 8 fs fds ["self","row"] (Ar P w K mg base kr ka c7)) (lj:Fn K mg "_law_kind" oi ["_law_kept"] f1 fd1):
  fm P w K mg base CX0 9 f fd ["_law_desk","_law_row"] (xw P w K mg base kr ka c7 C [c1,c3,c4,c7,c6,c2,c5]):=by
 have A9:fm P w K mg base CX0 1 f1 fd1 ["_law_kept"] (Bh [c1,c3,c4,c7,c6,c2,c5]):=zu lj XS B.toBl
 refine F.F.ok jX (λvs H Q E h=>?_) (λcdv A outer s H vs Q E hr h=>?_)
 ·obtain⟨d,row,S,p,r,rfl,_⟩:=h;rfl
 ·obtain⟨d,row,S,p,r,rfl,hD,yl,her,kk⟩:=h
  obtain⟨dx,v,u,hd,hv,hu⟩:=hD.at_
  refine⟨_,(fb (fQ (i:=2) jX.nd rfl (Or.inl rfl) lH)
 (fb (fQ (i:=3) jX.nd rfl (Or.inl rfl) lH)
 (fb (G7 (j:=4) rfl rfl rfl jX.nd rfl rfl rfl XS.Dj.m (λpn W E hW=>(fe (fQ (i:=3) jX.nd rfl (Or.inl rfl) (DZ (pv 0) DK.cl DK.say qG (hr.mono (by decide)) oR.b hW (eW (pv 1) eX))))) (λe=>(fe (fQ (i:=2) jX.nd rfl (Or.inl rfl) (pv 4)))))
 (fb (gf (PW.pt (uD (gw (rX (pv 2))) (qY (ni (gd Ae rfl B.isinstance cz (eW (pv 3) (eW (Br (v:=.ty "str") rfl B.str boot_str rfl) eX)))))))
 (fe (fz (pv 3))) fD)
 (fe (fz (fo gO fw (fj A9 (hr.mono (by decide)) rfl lj.m lj.F.kp lj.b .nil fM (eW (pv 2) eX))))))))),?_⟩
  refine⟨_,rfl,d,dx,_,rfl,hd,by rfl,_,rfl,yl H _ _ (fk.refl _) ⟨λa ha H1 o1 D1=>?_,λj hj c hc H1 s1 e he=>?_⟩⟩
  ·refine⟨_,rfl,_,rfl,tW ⟨_,rfl,_,_,_,true,rfl,.str a,rfl,_,rfl,tW ⟨_,rfl,?_⟩⟩⟩
   have:=kk H1 o1 D1
   rw[ha]at this
   exact this
  ·obtain⟨j7,e2⟩:=her j hj
   obtain⟨x,hx⟩:∃ x,words[j]? = some x:=⟨words[j]'j7,ao _⟩
   have hm:c∈ [c1,c2,c3,c4,c5,c6,c7]:=yr.mem_iff.mp (aD hc)
   refine⟨e,c,rfl,rfl,XS.cat c hm,⟨_,rfl,⟨_,rfl,_,rfl,rk (rk ⟨_,rfl,e,c,j,x,rfl,eZ,hc,hx,λH2 s2=>⟨_,_,rfl,rfl,?_,?_⟩⟩)⟩⟩⟩
   ·have:∀ y∈words,y.length<=10:=by decide +kernel
    have h1:=this x (aD hx)
    have h2:(Str.ofString "!").length=1:=by decide +kernel
    rw[aM];omega
   ·have S2:=s1.trans ((eY he).trans s2)
    have:=kk H2 (fk.oth S2) (by rw[e2];exact hD.same S2)
    rw[hj]at this
    have e3:txA (.error j)=Str.ofString "!" ++ x:=by
     show Str.ofString "!" ++ words.getD j Str.empty=_
     rw[bw,hx];rfl
    rw[e3]at this
    exact this
end
open Classical in
noncomputable def DB (K:PySem.W.Frag):Sp:=λvs H Q _=>∃ (v u:V) (l:Ln) (ns:List Int),vs = [v,u]/\Da K H (dL l) v/\Da K H (dI ns) u/\ij l/\(∀ p∈l.2,p.1≠p.2)/\ns≠ []/\ns.length<=900/\(o5 l ns->∀ H',fk H H'->Q (.bl true) H')/\(¬o5 l ns->∀ H',fk H H'->Q (.bl false) H')
noncomputable abbrev kA:Stmt:=top 92
theorem vV:fC ["_law_train_here"] ["_law_train_here"] (fh kA):=⟨rfl,rfl,rfl,by decide +kernel,rfl,by decide +kernel,by decide +kernel⟩
theorem oY:gq (fh kA) ["_law_train_here"] {kind:=.function,names:=[(Str.ofString ".0",.local),(Str.ofString "_law_end",.local),(Str.ofString "_law_other",.globalImplicit)],isGenerator:=false,isCoroutine:=false,more:=[]} ["_law_end"] 1 [none]:=⟨rfl,by decide +kernel,by decide +kernel,by decide +kernel,rfl,by decide +kernel,rfl,by decide +kernel⟩
noncomputable abbrev jo:Stmt:=top 97
theorem jO:fC ["_law_line_here","_law_train_here","_law_pieces","_law_one","_law_other_here"] ["_law_line_here","_law_train_here"] (fh jo):=⟨rfl,rfl,rfl,by decide +kernel,rfl,by decide +kernel,by decide +kernel⟩
theorem m6:gq (fh jo) ["_law_line_here","_law_train_here","_law_pieces","_law_one","_law_other_here"] {kind:=.function,names:=[(Str.ofString ".0",.local),(Str.ofString "_law_end",.local)],isGenerator:=false,isCoroutine:=false,more:=[]} ["_law_end"] 1 [none]:=⟨rfl,by decide +kernel,by decide +kernel,by decide +kernel,rfl,by decide +kernel,rfl,by decide +kernel⟩
section
variable {P:Program}{w:World}{K:PySem.W.Frag}{mg:Str->Option Value}{base:Heap}{f:Addr}{fd:FuncData}{D c1 c2 c3 c4 c5 c6 c7 C fi fs oa or_:Addr}{kr ka:List (Str×Addr)}
theorem wc (F:Fn K mg "_law_turned" kA ["_law_train_here"] f fd)(fI:Fn K mg "_law_other" jm ["_law_end"] f1 fd1):fm P w K mg base CX0 2 f fd ["_law_train_here"] (qP K):=by
 have iO:fm P w K mg base CX0 1 f1 fd1 ["_law_end"] ki:=lY fI
 refine F.F.ok vV (λvs H Q E h=>?_) (λcdv A outer s H vs Q E hr h=>?_)
 ·obtain⟨v,l,rfl,_⟩:=h;rfl
 ·obtain⟨v,ns,rfl,hv,hz,k⟩:=h
  obtain⟨a,rfl,hS⟩:=kF.mp hv
  refine⟨_,(fe (fz (nL (gg (DY (pv 0) (qZ nV fc))) rfl oY (.name (by decide)) (λ_ _ _ _=>(ft (i:=0) oY.nd rfl (Or.inl rfl))) (λ_ _ _ _=>gZ) (λ_ _ _ _=>(fj iO (hr.mono (by decide)) rfl fI.m fI.F.kp fI.b .nil fM (eW (pv 0) eX)))))),?_⟩
  refine⟨_,rfl,_,rfl,_,rfl,a,_,rfl,rfl,hS,λp hp=>⟨p,rfl,⟨_,SqL.of eZ⟩,λl1 n1=>lZ ns.reverse (λ_=>true) (λe=>V.int (oth e)) n1 (SqL.of eZ) (by rw[b9,aa,b9]) (by rw[b9,aa];exact gv hz) ?_ ?_⟩⟩
  ·intro i x d H' hx hd sm P1 P0 k1 k0
   rw[<-List.map_reverse,aq,hd]at hx
   cases hx
   refine iY ?_
   exact⟨_,rfl,d,rfl,k1 rfl⟩
  rw[iH]
  refine k l1 _ ((eY hp).trans (eY n1)) (fk.free (eY hp) n1) ?_
  rw[eZ,br];rfl
theorem tU (F:Fn K mg "_law_is_train" jo ["_law_line_here","_law_train_here"] f fd)(B:Bm mg)(fP:Fn K mg "_law_joined" iQ ["_law_line_here","_law_end"] f1 fd1)(fI:Fn K mg "_law_other" jm ["_law_end"] f2 fd2):
  fm P w K mg base CX0 2 f fd ["_law_line_here","_law_train_here"] (DB K):=by
 have jE:fm P w K mg base CX0 1 f1 fd1 ["_law_line_here","_law_end"] (pX K):=nj fP B.toBl
 have iO:fm P w K mg base CX0 1 f2 fd2 ["_law_end"] ki:=lY fI
 refine F.F.ok jO (λvs H Q E h=>?_) (λcdv A outer s H vs Q E hr h=>?_)
 ·obtain⟨v,u,l,ns,rfl,_⟩:=h;rfl
 ·obtain⟨v,u,l,ns,rfl,hv,hu,ok,hnp,hne,hz,k1,k2⟩:=h
  obtain⟨a,rfl,ha⟩:=kF.mp hu
  obtain⟨al,bl,rfl,hlt,us,hll,hlq⟩:=oy hv
  refine⟨_,(fb (uE (i:=2) jO.nd rfl rfl (gg (pv 1)) rfl m6 (.name (by decide)) (λ_ _ _ _=>(ft (i:=0) m6.nd rfl (Or.inl rfl))) (λ_ _ _ _=>gZ) (λ_ _ _ _=>(fo gH (pv 0) fc)))
 (fb (gf (PW.pt (uC (gw (tq (gd xh rfl B.len dZ (eW (kc (C8 rfl) rfl B.set boot_set (eW (pv 2) eX)) eX)) (gd iB rfl B.len dZ (eW (pv 2) eX)))) (uC (gw (tq (gd (C9 rfl) rfl B.min boot_min (eW (pv 1) eX)) fc)) (rT (gw (Gp (gd (De rfl) rfl B.max boot_max (eW (pv 1) eX)) (fo jt fc (gr lI (pv 0) fc (λ_ _=>rfl)))))))))
 (fe (fz pB)) fD)
 (fb (jq bH rfl (DR rfl B.zip (eW (pv 1) (eW (kD mS (pv 1) (lr fc) lX) eX))) (jr (n:=2) rfl (fH (ft (i:=3) jO.nd rfl (Or.inl rfl)) (fH (ft (i:=4) jO.nd rfl (Or.inl rfl)) g9)))
 (fe (gf (gG (mf hr.units) (pv 4) (fj jE (hr.mono (by decide)) rfl fP.m fP.F.kp fP.b .nil fM (eW (pv 0) (eW (fj iO (hr.mono (by decide)) rfl fI.m fI.F.kp fI.b .nil fM (eW (pv 3) eX)) eX))) (by with_unfolding_all rfl))
 (fe (fz pB)) fD)))
 (fe (fz pB))))),?_⟩
  refine⟨_,rfl,a,rfl,⟨_,ha⟩,λpc npc=>lZ ns (λ_=>true) (λe=>V.int (e/2)) npc ha (by rw[aa]) (by rw[aa];exact jf (by omega)) ?_ ?_⟩
  ·intro j x d H' hx hd sm P1 P0 k1 k0
   rw[aq,hd]at hx
   cases hx
   refine iY ?_
   exact⟨_,rfl,_,_,rfl,rfl,⟨by decide,by decide⟩,k1 rfl⟩
  rw[iH]
  have e1:(ns.map λe=>V.int (e/2))=(ns.map (· / 2)).map V.int:=by rw[br];rfl
  rw[e1]
  have s1:=eY (o:=.lst ((ns.map (· / 2)).map V.int)) npc
  have hpc:=eZ (H:=H) (a:=pc) (o:=.lst ((ns.map (· / 2)).map V.int))
  generalize upd H pc _=H1 at s1 hpc ⊢
  refine⟨_,rfl,pc,_,rfl,SqL.of hpc,by rw[aa];show ns.length+1<4096;omega,λq nq=>?_⟩
  have s2:=s1.trans (eY (o:=.set (λk=>decide (k∈ns.map (· / 2))) (dn (ns.map (· / 2)) (ns.map (· / 2)).length)) nq)
  have Js:=(eY (o:=.set (λk=>decide (k∈ns.map (· / 2))) (dn (ns.map (· / 2)) (ns.map (· / 2)).length)) nq) _ _ hpc
  have hq:=eZ (H:=H1) (a:=q) (o:=.set (λk=>decide (k∈ns.map (· / 2))) (dn (ns.map (· / 2)) (ns.map (· / 2)).length))
  generalize upd H1 q _=H2 at s2 Js hq ⊢
  refine⟨q,_,_,rfl,hq,_,rfl,pc,_,rfl,.inl (SqL.of Js),_,_,rfl,rfl,_,rfl,fY (λh=>?_) (λh=>?_)⟩
  ·have h:dn (ns.map (· / 2)) (ns.map (· / 2)).length<((ns.map (· / 2)).map V.int).length:=by simpa using h
   rw[aa,aa]at h
   have h2:=(BM (ns.map (· / 2))).mp (by rw[aa];simpa using h)
   exact tW (k2 (λz=>h2 z.nd) H2 s2)
  have nd:(ns.map (· / 2)).Nodup:=by
   have h:¬dn (ns.map (· / 2)) (ns.map (· / 2)).length<((ns.map (· / 2)).map V.int).length:=by simpa using h
   have h3:=BM (ns.map (· / 2))
   simp only[aa]at h h3
   exact Decidable.byContradiction λz=>h (h3.mpr z)
  refine⟨_,rfl,a,ns,rfl,s2.seq ha,hne,λm hm ml=>⟨_,_,rfl,rfl,_,rfl,fY (λh=>tW (k2 (λz=>?_) H2 s2)) (λh=>?_)⟩⟩
  ·have h:m<0:=by simpa using h
   have:=(z.ends m hm).1
   omega
  have m0:0<=m:=by simpa using h
  refine⟨_,rfl,a,ns,rfl,s2.seq ha,hne,λM hM Ml=>⟨_,rfl,al,_,_,_,rfl,rfl,gT s2 hlt,rfl,_,_,rfl,rfl,.inl ⟨by decide,by decide⟩,_,_,rfl,rfl,_,rfl,fY (λh=>k2 (λz=>?_) H2 s2) (λh=>?_)⟩⟩
  ·have h:2*l.1<=M:=by simpa using h
   have:=(z.ends M hM).2
   omega
  have M1:M<2*l.1:=by simpa using h
  have al':∀ e∈ns,0<=e/\e<2*l.1:=λe he=>by have h1:=ml e he;have h2:=Ml e he;omega
  refine⟨_,rfl,_,rfl,_,rfl,a,_,rfl,s2.seq ha,λt nt=>?_⟩
  rw[rA]
  have ht:=eZ (H:=H2) (a:=t) (o:=.lst ((ns.drop 1).map V.int))
  have s5:=eY (o:=.lst ((ns.drop 1).map V.int)) nt
  generalize upd H2 t _=H5 at ht s5 ⊢
  have S5:=s2.trans s5
  refine⟨a,t,rfl,⟨_,S5.seq ha⟩,⟨_,SqL.of ht⟩,BJ (K:=K) (a:=a) (b:=t) (xs:=ns.map V.int) (ys:=(ns.drop 1).map V.int) (ns.length-1) (by simp)
   (λi σ H6=>∃ (x2 x3:Option V),σ = [some (.ref al),some (.ref a),some (.ref pc),x2,x3]/\fk H5 H6/\∀ j,j<i->∀ x y,ns[j]? = some x->ns[j+1]? = some y->y∈jn l.2 (oth x))
   ⟨_,_,rfl,fk.refl _,λj hj=>absurd hj (Nat.not_lt_zero j)⟩ (λi σ H6 _ ⟨_,_,_,s,_⟩=>⟨(S5.trans s).seq ha,SqL.of (s _ _ ht)⟩) ?_ ?_⟩
  ·rintro i x y σ H6 p hx hy ⟨x2,x3,rfl,s6,al2⟩ np
   rw[aq]at hx hy
   rw[bE,Nat.add_comm]at hy
   obtain⟨d,hd,rfl⟩:∃ e,ns[i]? = some e/\x = .int e:=by
    cases q:ns[i]? with
    |none=>rw[q]at hx;cases hx
    |some e=>rw[q]at hx;cases hx;exact⟨e,rfl,rfl⟩
   obtain⟨e,he,rfl⟩:∃ e,ns[i+1]? = some e/\y = .int e:=by
    cases q:ns[i+1]? with
    |none=>rw[q]at hy;cases hy
    |some e=>rw[q]at hy;cases hy;exact⟨e,rfl,rfl⟩
   have S7:=(S5.trans s6).trans (eY (o:=.tup [.int d,.int e]) np)
   have s7:=s6.trans (eY (o:=.tup [.int d,.int e]) np)
   refine⟨p,_,rfl,SqT.of eZ,rfl,_,_,rfl,_,_,rfl,rfl,?_⟩
   refine⟨_,rfl,_,rfl,_,rfl,d,rfl,_,l,_,rfl,Da.same S7 hv,ok,hnp,λr H8 s8 nr hr8=>?_⟩
   refine⟨(jn l.2 (oth d)).map PyData.int,.int e,gR hr8,gD.mpr rfl,sd _,p7 _,_,rfl,?_⟩
   rw[xo]
   refine fY (λh=>?_) (λh=>?_)
   ·have h:e∉jn l.2 (oth d):=by simpa using h
    exact k2 (λz=>h (z.ch i d e hd he)) H8 (S7.trans s8)
   ·have h:e∈jn l.2 (oth d):=by simpa using h
    refine⟨_,_,rfl,s7.trans s8,λj hj x2 y2 hx2 hy2=>?_⟩
    rcases de.mp hj with z |z
    ·exact al2 j z x2 y2 hx2 hy2
    ·subst z
     rw[hd]at hx2;rw[he]at hy2
     cases hx2;cases hy2
     exact h
  rintro σ H6 ⟨x2,x3,rfl,s6,al2⟩
  refine k1 ⟨al',nd,λi x y hx hy=>al2 i ?_ x y hx hy⟩ H6 (S5.trans s6)
  have:=(af.mp hy).1
  omega
end
inductive Cm where
 |line (l:Ln)
 |kh (ns:List Int)
 |mv (w:Str) (e:Int)
 |round
 |here
 |moves
noncomputable def Cm.word:Cm->Str
 |.line _=>Str.ofString "line"
 |.kh _=>Str.ofString "train"
 |.mv w _=>w
 |.round=>Str.ofString "round"
 |.here=>Str.ofString "here"
 |.moves=>Str.ofString "moves"
noncomputable def Cm.row:Cm->Str
 |.line l=>Str.ofString "line" ++ chS 32++txL l
 |.kh ns=>Str.ofString "train" ++ chS 32++txT ns
 |.mv w e=>w++chS 32++txE e
 |.round=>Str.ofString "round"
 |.here=>Str.ofString "here"
 |.moves=>Str.ofString "moves"
noncomputable def Cm.ok:Cm->Prop
 |.line l=>fW l
 |.kh ns=>OkN ns/\ns≠ []
 |.mv w e=>(w=Str.ofString "on" \/w=Str.ofString "back")/\0<=e/\e<82
 |_=>True
noncomputable def Thing (K:PySem.W.Frag)(H:Hp)(p:Addr->Prop):Cm->V->Prop
 |.line l,v=>Da K (gm p H) (dL l) v
 |.kh ns,v=>Da K (gm p H) (dI ns) v
 |.mv _ e,v=>v = .int e
 |_,v=>v = .non
open Classical in
noncomputable def jJ (S:DS):Cm->Ans
 |.line l=>(.ok "ok",(some l,none))
 |.kh ns=>match S.1 with
  |none=>(.error 0,S)
  |some l=>if isT l ns then(.ok "ok",(some l,some ns))else(.error 5,S)
 |.mv w e=>both S λl t=>match fnd (mvs l t) (w,e)with
  |some b=>(.ok (txT b),(some l,some b))
  |none=>(.error 1,S)
 |.round=>sE S
 |.here=>xg S
 |.moves=>sF S
noncomputable def Au (K:PySem.W.Frag):Sp:=λvs H Q _=>∃ (s:Addr) (c:Cm) (v:V) (S:DS) (p:Addr->Prop),vs = [.ref s,.str c.word,v]/\Stt K p H s S/\Thing K H p c v/\DOk S/\c.ok/\∀ H',Oth s H H'->Stt K p H' s (jJ S c).2->Q (.str (txA (jJ S c).1)) H'
theorem tJ {R:Nat->Addr->Prop} :∀ (n:Nat),(∀ i,i<n->∃ g,R i g)->∃ gas:List Addr,gas.length=n/\∀ (i:Nat) g,gas[i]? = some g->R i g
 | 0,_=>⟨[],rfl,λi g h=>by simp at h⟩
 |n+1,h=>by
  obtain⟨gas,hl,hr⟩:=tJ n λi hi=>h i (by omega)
  obtain⟨g,hg⟩:=h n (by omega)
  refine⟨gas ++ [g],by rw[aU,hl];rfl,λi g' h'=>?_⟩
  by_cases c:i<gas.length
  ·rw[ba c]at h';exact hr i g' h'
  ·have e:i=n:=by
    have:=(af.mp h').1
    rw[aU,dF]at this
    omega
   subst e
   rw[bf (by omega),hl,cP]at h'
   cases h'
   exact hg
theorem GH {K:PySem.W.Frag}{H:Hp} :∀ {L:List (Mv×Addr)},(∀ d∈L,H d.2=some (.lst (d.1.2.map V.int)))->Das K H ((L.map λd=>d.1.2).map dI) (L.map λd=>V.ref d.2)
 |[],_=>gQ.mpr rfl
 |d::r,h=>fX.mpr ⟨_,_,rfl,gR (h d az),GH λd hd=>h d (ar _ hd)⟩
theorem Cw (ns:List Int):OkD (.list [dI ns]):=Eb [ns]
theorem yO:txA (.error 0)=Str.ofString "!line" :=by decide +kernel
theorem Ip:txA (.error 1)=Str.ofString "!move" :=by decide +kernel
theorem yN:txA (.error 5)=Str.ofString "!train" :=by decide +kernel
theorem Oth.rfl':Oth d H H:=λ_ _ _ h=>h
variable {S:DS}
theorem Stt.put {sa:Addr}{S':DS}{v u:V}(h:Stt K p H sa S)(s:fk H H1)(hv:VL K (gm p H1) S'.1 v)(hu:VT K (gm p H1) S'.2 u):Stt K p (upd H1 sa (.lst [v,u])) sa S':=
 ⟨⟨v,u,eZ,by rw[jw h.pd];exact hv,by rw[jw h.pd];exact hu⟩,h.pd,LI.upd (LI.same s h.li) (.inr ⟨_,rfl⟩)⟩
theorem qA {sa q:Addr}(h:Stt K p H sa S)(nq:H q=none):¬p q:=λz=>by
 rcases h.li q z with⟨_,_,_,e⟩|⟨_,e⟩<;>rw[nq]at e<;>cases e
noncomputable abbrev kS:Stmt:=top 100
theorem mn:fC ["_law_state","_law_word","_law_thing","_law_line_here","_law_train_here","_law_found"] ["_law_state","_law_word","_law_thing"] (fh kS):=⟨rfl,rfl,rfl,by decide +kernel,rfl,by decide +kernel,by decide +kernel⟩
theorem oB:gq (fh kS) ["_law_state","_law_word","_law_thing","_law_line_here","_law_train_here","_law_found"] {kind:=.function,names:=[(Str.ofString ".0",.local),(Str.ofString "_law_move",.local),(Str.ofString "_law_behind",.local)],isGenerator:=false,isCoroutine:=false,more:=[]} ["_law_move","_law_behind"] 2 [none,none]:=⟨rfl,by decide +kernel,by decide +kernel,by decide +kernel,rfl,by decide +kernel,rfl,by decide +kernel⟩
theorem oA:gq (fh kS) ["_law_state","_law_word","_law_thing","_law_line_here","_law_train_here","_law_found"] {kind:=.function,names:=[(Str.ofString ".0",.local),(Str.ofString "_law_move",.local),(Str.ofString "_law_behind",.local),(Str.ofString "_law_thing",.free),(Str.ofString "_law_word",.free)],isGenerator:=false,isCoroutine:=false,more:=[]} ["_law_move","_law_behind","_law_thing","_law_word"] 2 [none,none,some 2,some 1]:=⟨rfl,by decide +kernel,by decide +kernel,by decide +kernel,rfl,by decide +kernel,rfl,by decide +kernel⟩
section
variable {P:Program}{w:World}{K:PySem.W.Frag}{mg:Str->Option Value}{base:Heap}{f:Addr}{fd:FuncData}{D c1 c2 c3 c4 c5 c6 c7 C fi fs oa or_:Addr}{kr ka:List (Str×Addr)}
theorem AF (F:Fn K mg "_law_due" kS ["_law_state","_law_word","_law_thing"] f fd)(B:Bm mg)
  (iK:Fn K mg "_law_is_train" jo ["_law_line_here","_law_train_here"] f1 fd1) (mO:fm P w K mg base CX0 2 f1 fd1 ["_law_line_here","_law_train_here"] (DB K))
  (gA:Fn K mg "_law_moves" j8 ["_law_line_here","_law_train_here"] f2 fd2) (jx:fm P w K mg base CX0 2 f2 fd2 ["_law_line_here","_law_train_here"] (uo K))
  (iJ:Fn K mg "_law_run_text" jk ["_law_run"] f3 fd3) (mL:fm P w K mg base CX0 2 f3 fd3 ["_law_run"] (qO K))
  (fR:Fn K mg "_law_train_text" ic ["_law_train_here"] f4 fd4) (gX:fm P w K mg base CX0 2 f4 fd4 ["_law_train_here"] (nF K))
  (jH:Fn K mg "_law_turned" kA ["_law_train_here"] f5 fd5) (oI:fm P w K mg base CX0 2 f5 fd5 ["_law_train_here"] (qP K)):
  fm P w K mg base CX0 3 f fd ["_law_state","_law_word","_law_thing"] (Au K):=by
 refine F.F.ok mn (λvs H Q E h=>?_) (λcdv A outer s H vs Q E hr h=>?_)
 ·obtain⟨s,c,v,S,p,rfl,_⟩:=h;rfl
 ·obtain⟨sa,c,x,S,p,rfl,hS,hx,dS,hc,kk⟩:=h
  obtain⟨v,u,hd,hv,hu⟩:=hS.at_
  refine⟨_,(fb (mD (pv 0) (DV (n:=2) rfl (fH (ft (i:=3) mn.nd rfl (Or.inl rfl)) (fH (ft (i:=4) mn.nd rfl (Or.inl rfl)) g9))))
 (fb (gf (gG tD (pv 1) fw (iS _))
 (fb (mD (pv 2) (xP (pv 0) fc set_list))
 (fb (mD lH (xP (pv 0) fc set_list))
 (fe (fz fw)))) fD)
 (fb (gf (gw (rX (pv 3)))
 (fe (fz fw)) fD)
 (fb (gf (gG tD (pv 1) fw (iS _))
 (fb (gf (kT (ni (fj mO (hr.mono (by decide)) rfl iK.m iK.F.kp iK.b .nil fM (eW (pv 3) (eW (pv 2) eX)))))
 (fe (fz fw)) fD)
 (fb (mD (kc yx rfl B.list boot_list (eW (pv 2) eX)) (xP (pv 0) fc set_list))
 (fe (fz fw)))) fD)
 (fb (gf (gw (rX (pv 4)))
 (fe (fz fw)) fD)
 (fb (gf (gG tD (pv 1) fw (iS _))
 (fe (fz (fj gX (hr.mono (by decide)) rfl fR.m fR.F.kp fR.b .nil fM (eW (pv 4) eX)))) fD)
 (fb (gf (gG tD (pv 1) fw (iS _))
 (fe (fz (fj mL (hr.mono (by decide)) rfl iJ.m iJ.F.kp iJ.b .nil fM (eW (nL (gg (fj jx (hr.mono (by decide)) rfl gA.m gA.F.kp gA.b .nil fM (eW (pv 3) (eW (pv 4) eX)))) rfl oB (.tup (.cons (.name (by decide)) (.cons (.name (by decide)) .nil))) (λ_ _ _ _=>(jr (n:=2) rfl (fH (ft (i:=0) oB.nd rfl (Or.inl rfl)) (fH (ft (i:=1) oB.nd rfl (Or.inl rfl)) g9)))) (λ_ _ _ _=>gZ) (λ_ _ _ _=>(pv 0))) eX)))) fD)
 (fb (fQ (i:=5) mn.nd rfl (Or.inl rfl) (gB (eW (fj oI (hr.mono (by decide)) rfl jH.m jH.F.kp jH.b .nil fM (eW (pv 4) eX)) eX)))
 (fb (gf (gG zi (pv 1) fw (iS _))
 (fe (uE (i:=5) mn.nd rfl rfl (gg (fj jx (hr.mono (by decide)) rfl gA.m gA.F.kp gA.b .nil fM (eW (pv 3) (eW (pv 4) eX)))) rfl oA (.tup (.cons (.name (by decide)) (.cons (.name (by decide)) .nil))) (λ_ _ _ _=>(jr (n:=2) rfl (fH (ft (i:=0) oA.nd rfl (Or.inl rfl)) (fH (ft (i:=1) oA.nd rfl (Or.inl rfl)) g9)))) (λ_ _ _ _=>(nJ (gG (FC (K:=K) rfl hr.units) (pv 0) (iE (eW (pv 3) (eW (pv 2) eX))) (iS _)))) (λ_ _ _ _=>(pv 1)))) fD)
 (fb (gf (gG (uO hr.units) (pv 5) (gB eX) (iS _))
 (fe (fz fw)) fD)
 (fb (mD (gr gh (pv 5) fc (λ_ _=>rfl)) (xP (pv 0) fc set_list))
 (fe (fz (fj gX (hr.mono (by decide)) rfl fR.m fR.F.kp fR.b .nil fM (eW (gr gh (pv 5) fc (λ_ _=>rfl)) eX))))))))))))))),?_⟩
  refine⟨_,rfl,sa,_,rfl,SqL.of hd,rfl,_,_,rfl,_,_,rfl,rfl,?_⟩
  have wl:∀ {a b:Str},a≠b->¬(decide (V.str a=V.str b)=true):=λh z=>h (by simpa using z)
  cases c with
  |line l=>
   refine⟨_,rfl,rfl,_,rfl,fY (λ_=>?_) (λh=>absurd (by simp[Cm.word]) h)⟩
   refine⟨_,rfl,_,rfl,sa,_,0,0,rfl,rfl,hd,rfl,?_⟩
   refine⟨_,rfl,sa,_,1,1,rfl,rfl,eZ,rfl,?_⟩
   rw[nU]
   exact kk _ (Oth.upd Oth.rfl') (Stt.put hS (fk.refl _) hx rfl)
  |kh ns=>
   refine⟨_,rfl,rfl,_,rfl,fY (λh=>absurd h (wl (show Str.ofString "train" ≠Str.ofString "line" by decide +kernel))) (λ_=>?_)⟩
   refine⟨_,rfl,_,rfl,fY (λh=>?_) (λh=>?_)⟩
   ·have h:v = .non:=by simpa using h
    have q:jJ S (.kh ns)=(.error 0,S):=by show(match S.1 with |none=>_ |some l=>_)=_;rw[(hZ hv).mp h]
    rw[q]at kk
    have:=kk H Oth.rfl' hS
    rw[yO]at this
    exact this
   obtain⟨l,hl⟩:∃ l,S.1=some l:=by
    cases q:S.1 with
    |none=>exact absurd ((hZ hv).mpr q) (by simpa using h)
    |some l=>exact⟨l,rfl⟩
   have il:=dS.l l hl
   have ok:=fW.ok il
   have hv1:=hv
   rw[hl]at hv1
   have hv1:Da K (gm p H) (dL l) v:=hv1
   obtain⟨on,hne⟩:=hc
   refine⟨_,rfl,rfl,_,rfl,fY (λ_=>?_) (λh=>absurd (by simp[Cm.word]) h)⟩
   obtain⟨xa,rfl,hxa⟩:=kF.mp (show Da K (gm p H) (dI ns) x from hx)
   refine⟨_,rfl,_,rfl,v,_,l,ns,rfl,Da.same fN hv1,Da.same fN hx,ok,fW.ne il,hne,by have:=on.1;omega,λT H1 s1=>?_,λnT H1 s1=>?_⟩
   ·refine⟨_,rfl,rk ?_⟩
    refine⟨_,rfl,xa,_,rfl,.inl ((fN.trans s1).seq hxa),λq nq=>?_⟩
    have s2:=s1.trans (eY (o:=.lst (ns.map V.int)) nq)
    have hq:=eZ (H:=H1) (a:=q) (o:=.lst (ns.map V.int))
    generalize upd H1 q _=H2 at s2 hq ⊢
    have hd2:=s2 _ _ hd
    refine⟨_,rfl,sa,_,1,1,rfl,rfl,hd2,rfl,?_⟩
    have q':jJ S (.kh ns)=(.ok "ok",(some l,some ns)):=by
     show(match S.1 with |none=>_ |some l=>_)=_
     rw[hl];exact aA ⟨hne,T⟩
    rw[q']at kk
    refine kk _ (Oth.upd (fk.oth s2)) (Stt.put hS s2 (Da.same (hG s2) hv1) (gR ?_))
    rw[gL (qA (hS.same s1) nq)]
    exact hq
   ·refine⟨_,rfl,tW ?_⟩
    have q':jJ S (.kh ns)=(.error 5,S):=by
     show(match S.1 with |none=>_ |some l=>_)=_
     rw[hl];exact au λz=>nT z.2
    rw[q']at kk
    have:=kk H1 (fk.oth s1) (hS.same s1)
    rw[yN]at this
    exact this
  |here=>
   refine⟨_,rfl,rfl,_,rfl,fY (λh=>absurd h (wl (by decide +kernel))) (λ_=>?_)⟩
   refine⟨_,rfl,_,rfl,fY (λh=>?_) (λh=>?_)⟩
   ·have h:v = .non:=by simpa using h
    have q:jJ S (.here)=(.error 0,S):=by exact lN ((hZ hv).mp h)
    rw[q]at kk
    have:=kk H Oth.rfl' hS
    rw[yO]at this
    exact this
   obtain⟨l,hl⟩:∃ l,S.1=some l:=by
    cases q:S.1 with
    |none=>exact absurd ((hZ hv).mpr q) (by simpa using h)
    |some l=>exact⟨l,rfl⟩
   have il:=dS.l l hl
   have ok:=fW.ok il
   have hv1:=hv
   rw[hl]at hv1
   have hv1:Da K (gm p H) (dL l) v:=hv1
   refine⟨_,rfl,rfl,_,rfl,fY (λh=>absurd h (wl (by decide +kernel))) (λ_=>?_)⟩
   refine⟨_,rfl,_,rfl,fY (λh=>?_) (λh=>?_)⟩
   ·have h:u = .non:=by simpa using h
    have q:jJ S (.here)=(.error 5,S):=mJ hl ((iP hu).mp h)
    rw[q]at kk
    have:=kk H Oth.rfl' hS
    rw[yN]at this
    exact this
   obtain⟨t,ht⟩:∃ t,S.2=some t:=by
    cases q:S.2 with
    |none=>exact absurd ((iP hu).mpr q) (by simpa using h)
    |some l=>exact⟨l,rfl⟩
   obtain⟨l',hl',it⟩:=dS.t t ht
   rw[hl]at hl'
   cases hl'
   have hu1:=hu
   rw[ht]at hu1
   have hu1:Da K (gm p H) (dI t) u:=hu1
   have oN:=isT.okN il it
   have hne:=it.1
   refine⟨_,rfl,rfl,_,rfl,fY (λ_=>?_) (λh=>absurd (by simp[Cm.word]) h)⟩
   have q':jJ S .here=(.ok (txT t),S):=lM hl ht
   rw[q']at kk
   exact⟨_,rfl,u,t,rfl,Da.same fN hu1,oN,λH1 s1=>kk H1 (fk.oth s1) (hS.same s1)⟩
  |moves=>
   refine⟨_,rfl,rfl,_,rfl,fY (λh=>absurd h (wl (by decide +kernel))) (λ_=>?_)⟩
   refine⟨_,rfl,_,rfl,fY (λh=>?_) (λh=>?_)⟩
   ·have h:v = .non:=by simpa using h
    have q:jJ S (.moves)=(.error 0,S):=by exact lN ((hZ hv).mp h)
    rw[q]at kk
    have:=kk H Oth.rfl' hS
    rw[yO]at this
    exact this
   obtain⟨l,hl⟩:∃ l,S.1=some l:=by
    cases q:S.1 with
    |none=>exact absurd ((hZ hv).mpr q) (by simpa using h)
    |some l=>exact⟨l,rfl⟩
   have il:=dS.l l hl
   have ok:=fW.ok il
   have hv1:=hv
   rw[hl]at hv1
   have hv1:Da K (gm p H) (dL l) v:=hv1
   refine⟨_,rfl,rfl,_,rfl,fY (λh=>absurd h (wl (by decide +kernel))) (λ_=>?_)⟩
   refine⟨_,rfl,_,rfl,fY (λh=>?_) (λh=>?_)⟩
   ·have h:u = .non:=by simpa using h
    have q:jJ S (.moves)=(.error 5,S):=mJ hl ((iP hu).mp h)
    rw[q]at kk
    have:=kk H Oth.rfl' hS
    rw[yN]at this
    exact this
   obtain⟨t,ht⟩:∃ t,S.2=some t:=by
    cases q:S.2 with
    |none=>exact absurd ((iP hu).mpr q) (by simpa using h)
    |some l=>exact⟨l,rfl⟩
   obtain⟨l',hl',it⟩:=dS.t t ht
   rw[hl]at hl'
   cases hl'
   have hu1:=hu
   rw[ht]at hu1
   have hu1:Da K (gm p H) (dI t) u:=hu1
   have oN:=isT.okN il it
   have hne:=it.1
   refine⟨_,rfl,rfl,_,rfl,fY (λh=>absurd h (wl (by decide +kernel))) (λ_=>?_)⟩
   refine⟨_,rfl,rfl,_,rfl,fY (λ_=>?_) (λh=>absurd (by simp[Cm.word]) h)⟩
   have q':jJ S .moves=(.ok (uh ((mvs l t).map (·.1))),S):=lM hl ht
   rw[q']at kk
   have kk:∀ H',Oth sa H H'->Stt K p H' sa S->Q (.str (uh ((mvs l t).map (·.1)))) H':=kk
   have ml:=ua ok t
   refine⟨_,rfl,_,rfl,v,u,l,t,rfl,Da.same fN hv1,Da.same fN hu1,ok,fW.ne il,hne,by have:=oN.1;omega,λpm vm H1 s1 npm hpm Dm=>⟨pm,rfl,⟨_,SqL.of hpm⟩,λq nq=>va (K:=K) hpm Dm (by omega) nq λus H2 s2 hq2 D2=>?_⟩⟩
   refine⟨.ref q,(mvs l t).map (·.1),rfl,jg.mpr ⟨q,us,rfl,SqL.of hq2,Das.same (pF (p:=q)) D2⟩,⟨by rw[aa];omega,λk hk=>?_⟩,λH3 s3=>kk H3 (fk.oth (s1.trans (s2.trans s3))) (hS.same (s1.trans (s2.trans s3)))⟩
   obtain⟨m,hm,rfl⟩:=aH.mp hk
   obtain⟨w1,w2,w3⟩:=sh ok hm
   exact⟨w1,w2,by have:=il.2.1;omega⟩
  |round=>
   refine⟨_,rfl,rfl,_,rfl,fY (λh=>absurd h (wl (by decide +kernel))) (λ_=>?_)⟩
   refine⟨_,rfl,_,rfl,fY (λh=>?_) (λh=>?_)⟩
   ·have h:v = .non:=by simpa using h
    have q:jJ S (.round)=(.error 0,S):=by exact lN ((hZ hv).mp h)
    rw[q]at kk
    have:=kk H Oth.rfl' hS
    rw[yO]at this
    exact this
   obtain⟨l,hl⟩:∃ l,S.1=some l:=by
    cases q:S.1 with
    |none=>exact absurd ((hZ hv).mpr q) (by simpa using h)
    |some l=>exact⟨l,rfl⟩
   have il:=dS.l l hl
   have ok:=fW.ok il
   have hv1:=hv
   rw[hl]at hv1
   have hv1:Da K (gm p H) (dL l) v:=hv1
   refine⟨_,rfl,rfl,_,rfl,fY (λh=>absurd h (wl (by decide +kernel))) (λ_=>?_)⟩
   refine⟨_,rfl,_,rfl,fY (λh=>?_) (λh=>?_)⟩
   ·have h:u = .non:=by simpa using h
    have q:jJ S (.round)=(.error 5,S):=mJ hl ((iP hu).mp h)
    rw[q]at kk
    have:=kk H Oth.rfl' hS
    rw[yN]at this
    exact this
   obtain⟨t,ht⟩:∃ t,S.2=some t:=by
    cases q:S.2 with
    |none=>exact absurd ((iP hu).mpr q) (by simpa using h)
    |some l=>exact⟨l,rfl⟩
   obtain⟨l',hl',it⟩:=dS.t t ht
   rw[hl]at hl'
   cases hl'
   have hu1:=hu
   rw[ht]at hu1
   have hu1:Da K (gm p H) (dI t) u:=hu1
   have oN:=isT.okN il it
   have hne:=it.1
   refine⟨_,rfl,rfl,_,rfl,fY (λh=>absurd h (wl (by decide +kernel))) (λ_=>?_)⟩
   refine⟨_,rfl,rfl,_,rfl,fY (λh=>absurd h (wl (by decide +kernel))) (λ_=>?_)⟩
   have q':jJ S .round=(.ok (txT (t.reverse.map oth)),(some l,some (t.reverse.map oth))):=lM hl ht
   rw[q']at kk
   have iT:isT l (t.reverse.map oth):=⟨by simpa using hne,rN ok it.2⟩
   refine⟨_,rfl,u,t,rfl,Da.same fN hu1,by have:=oN.1;omega,λq H1 s1 nq hq=>⟨by show 1<=sizeLine;decide,λpf npf=>?_⟩⟩
   have S3:=s1.trans (eY (o:=.lst [.ref q]) npf)
   have hf:=eZ (H:=H1) (a:=pf) (o:=.lst [.ref q])
   have hq:=(eY (o:=.lst [.ref q]) npf) _ _ hq
   have nf:H pf=none:=fk.free s1 npf
   generalize upd H1 pf _=H3 at S3 hf hq ⊢
   refine⟨_,rfl,rfl,_,rfl,fY (λh=>absurd h (by simp[Cm.word])) (λ_=>?_)⟩
   refine⟨_,rfl,aP _,λe ne=>?_⟩
   have s4:=S3.trans (eY (o:=.lst []) ne)
   have he:=eZ (H:=H3) (a:=e) (o:=.lst [])
   have hf:=(eY (o:=.lst []) ne) _ _ hf
   have hq:=(eY (o:=.lst []) ne) _ _ hq
   generalize upd H3 e _=H4 at s4 he hf hq ⊢
   refine⟨.list [dI (t.reverse.map oth)],.list [],jg.mpr ⟨pf,_,rfl,SqL.of hf,Dgs.one (gR hq)⟩,gR (ns:=[]) he,Cw _,rg,_,rfl,?_⟩
   rw[kE]
   refine rk ?_
   have np:=qA hS nq
   have pq:q≠sa:=λz=>np (by rw[z];exact hS.pd)
   have pp:pf≠sa:=λz=>qA hS nf (by rw[z];exact hS.pd)
   refine⟨_,rfl,pf,_,_,_,rfl,rfl,SqL.of hf,jS (j:=0) rfl,_,rfl,sa,_,1,1,rfl,rfl,s4 _ _ hd,rfl,?_⟩
   have S5:Oth sa H (upd H4 sa (.lst ([v,u].set 1 (.ref q)))):=Oth.upd (fk.oth s4)
   refine⟨_,rfl,pf,_,_,_,rfl,rfl,SqL.of (by rw[fE pp];exact hf),jS (j:=0) rfl,.ref q,_,rfl,gR (by rw[fE pq];exact hq),isT.okN il iT,λH6 s6=>?_⟩
   refine kk H6 (S5.trans (fk.oth s6)) (Stt.same (Stt.put hS s4 (Da.same (hG s4) hv1) (gR ?_)) s6)
   rw[gL np];exact hq
  |mv w e=>
   obtain⟨hw,e0,e1⟩:=hc
   have wn:∀ {y:Str},Str.ofString "on" ≠y->Str.ofString "back" ≠y->Cm.word (.mv w e)≠y:=λh1 h2=>by
    show w≠_
    rcases hw with r |r<;>rw[r]<;>assumption
   refine⟨_,rfl,rfl,_,rfl,fY (λh=>absurd h (wl (wn (by decide +kernel) (by decide +kernel)))) (λ_=>?_)⟩
   refine⟨_,rfl,_,rfl,fY (λh=>?_) (λh=>?_)⟩
   ·have h:v = .non:=by simpa using h
    have q:jJ S (.mv w e)=(.error 0,S):=by exact lN ((hZ hv).mp h)
    rw[q]at kk
    have:=kk H Oth.rfl' hS
    rw[yO]at this
    exact this
   obtain⟨l,hl⟩:∃ l,S.1=some l:=by
    cases q:S.1 with
    |none=>exact absurd ((hZ hv).mpr q) (by simpa using h)
    |some l=>exact⟨l,rfl⟩
   have il:=dS.l l hl
   have ok:=fW.ok il
   have hv1:=hv
   rw[hl]at hv1
   have hv1:Da K (gm p H) (dL l) v:=hv1
   refine⟨_,rfl,rfl,_,rfl,fY (λh=>absurd h (wl (wn (by decide +kernel) (by decide +kernel)))) (λ_=>?_)⟩
   refine⟨_,rfl,_,rfl,fY (λh=>?_) (λh=>?_)⟩
   ·have h:u = .non:=by simpa using h
    have q:jJ S (.mv w e)=(.error 5,S):=mJ hl ((iP hu).mp h)
    rw[q]at kk
    have:=kk H Oth.rfl' hS
    rw[yN]at this
    exact this
   obtain⟨t,ht⟩:∃ t,S.2=some t:=by
    cases q:S.2 with
    |none=>exact absurd ((iP hu).mpr q) (by simpa using h)
    |some l=>exact⟨l,rfl⟩
   obtain⟨l',hl',it⟩:=dS.t t ht
   rw[hl]at hl'
   cases hl'
   have hu1:=hu
   rw[ht]at hu1
   have hu1:Da K (gm p H) (dI t) u:=hu1
   have oN:=isT.okN il it
   have hne:=it.1
   refine⟨_,rfl,rfl,_,rfl,fY (λh=>absurd h (wl (wn (by decide +kernel) (by decide +kernel)))) (λ_=>?_)⟩
   refine⟨_,rfl,rfl,_,rfl,fY (λh=>absurd h (wl (wn (by decide +kernel) (by decide +kernel)))) (λ_=>?_)⟩
   have hx:x = .int e:=hx
   subst hx
   refine⟨_,rfl,u,t,rfl,Da.same fN hu1,by have:=oN.1;omega,λq0 H1 s1 nq0 hq0=>⟨by show 1<=sizeLine;decide,λp0 np0=>?_⟩⟩
   have S1:=s1.trans (eY (o:=.lst [.ref q0]) np0)
   generalize upd H1 p0 _=H2 at S1 ⊢
   have wr:=wn (y:=Str.ofString "round") (by decide +kernel) (by decide +kernel)
   refine⟨_,rfl,rfl,_,rfl,fY (λ_=>?_) (λh=>absurd (by simpa using wr) h)⟩
   have ml:=ua ok t
   refine⟨_,rfl,_,rfl,v,u,l,t,rfl,Da.same (fN.trans S1) hv1,Da.same (fN.trans S1) hu1,ok,fW.ne il,hne,by have:=oN.1;omega,λpm vm H3 s3 npm hpm Dm=>⟨pm,rfl,⟨_,SqL.of hpm⟩,λpf npf=>?_⟩⟩
   have vl:vm.length=(mvs l t).length:=by have:=Dm.length;rw[aa]at this;exact this
   obtain⟨bs,bl,hbs⟩:=tJ (R:=λi b=>∃ m ad p1,(mvs l t)[i]? = some m/\vm[i]? = some (.ref ad)/\SqT K H3 ad [.ref p1,.ref b]/\Da K H3 (dM m.1) (.ref p1)/\H3 b=some (.lst (m.2.map V.int))/\H2 b=none) (mvs l t).length λi hi=>by
    obtain⟨m,ad,p1,b,h1,h2,h3,h4,h5,h6,_⟩:=Ef Dm (ao (show i<vm.length by omega))
    exact⟨b,m,ad,p1,h1,by rw[ao (show i<vm.length by omega),h2],h3,h4,h5,h6⟩
   refine qa (mvs l t).length ((mvs l t).zip bs) (λd=>decide (d.1.1=(w,e))) (λd=>V.ref d.2) npf (by rw[List.length_zip,bl];omega) (jf (by omega)) (λi G s hi=>(gI (SqL.of (K:=K) hpm)).go i G s (by omega)) (λG s=>by have:=(gI (SqL.of (K:=K) hpm)).stop G s;rw[vl]at this;exact this) ?_ ?_
   ·rintro i y ⟨dm,db⟩ G G' sG ⟨rfl,yy⟩ hdi P1 P0 k1 k0
    obtain⟨zd1,zd2⟩:=eM.mp hdi
    obtain⟨m,ad,p1,h1,h2,h3,h4,h5,h6⟩:=hbs i db zd2
    have zd1:(mvs l t)[i]? = some dm:=zd1
    rw[zd1]at h1
    cases h1
    have hx:=yy vm (SqL.of (sG _ _ hpm))
    rw[h2]at hx
    cases hx
    refine⟨ad,_,rfl,gT sG h3,rfl,_,_,rfl,_,_,rfl,rfl,?_⟩
    refine⟨_,rfl,_,rfl,_,rfl,by show 2<=sizeLine;decide,λq nq=>⟨dM dm.1,dM (w,e),Da.same (fk.trans sG (eY nq)) h4,gC.mpr ⟨q,_,rfl,SqT.of eZ,Dgs.two (sD.mpr rfl) (gD.mpr rfl)⟩,zw (rP l t dm (aD zd1)),zw (kQ hw),_,rfl,?_⟩⟩
    rw[GF]
    exact fY (λh=>⟨_,rfl,k1 _ h (eY nq)⟩) (λh=>k0 _ (by simpa using h) (eY nq))
   intro H4 s4 hf
   have S3:=S1.trans (s3.trans s4)
   have LA:∀ d∈((mvs l t).zip bs).filter (λd=>decide (d.1.1=(w,e))),H4 d.2=some (.lst (d.1.2.map V.int))/\d.1∈mvs l t/\¬p d.2:=λd hd=>by
    obtain⟨hd,_⟩:=bV.mp hd
    obtain⟨i,hi⟩:=cQ.mp hd
    obtain⟨zd1,zd2⟩:=eM.mp hi
    obtain⟨m,ad,p1,h1,h2,h3,h4,h5,h6⟩:=hbs i d.2 zd2
    rw[zd1]at h1
    cases h1
    exact⟨s4 _ _ h5,aD zd1,qA (hS.same S1) h6⟩
   have fq:fnd (mvs l t) (w,e)=(((mvs l t).zip bs).filter (λd=>decide (d.1.1=(w,e)))).head?.map (·.1.2):=by
    rw[List.head?_filter]
    unfold fnd
    conv=>lhs;rw[<-List.map_fst_zip (l₁:=mvs l t) (l₂:=bs) (by omega)]
    rw[List.find?_map,Option.map_map]
    rfl
   generalize ((mvs l t).zip bs).filter (λd=>decide (d.1.1=(w,e)))=L at hf LA fq
   refine⟨_,rfl,aP _,λen ne=>?_⟩
   have s5:=S3.trans (eY (o:=.lst []) ne)
   have he:=eZ (H:=H4) (a:=en) (o:=.lst [])
   have hf:=(eY (o:=.lst []) ne) _ _ hf
   have LA:=λd hd=>And.intro ((eY (o:=.lst []) ne) _ _ (LA d hd).1) (LA d hd).2
   have nf:H pf=none:=fk.free (S1.trans s3) npf
   generalize upd H4 en _=H5 at s5 he hf LA ⊢
   have DL:=GH (K:=K) λd hd=>(LA d hd).1
   have DA:Da K H5 (dLI (L.map λd:Mv×Addr=>d.1.2)) (.ref pf):=jg.mpr ⟨pf,_,rfl,SqL.of hf,DL⟩
   refine⟨_,.list [],DA,gR (ns:=[]) he,Eb _,rg,_,rfl,?_⟩
   have ee:PyData.eqv (dLI (L.map λd:Mv×Addr=>d.1.2)) (.list [])=((L.map λd:Mv×Addr=>d.1.2).map dI).isEmpty:=kE _
   rw[ee]
   cases L with
   |nil=>
    refine tW ?_
    have q':jJ S (.mv w e)=(.error 1,S):=by
     show both S _=_
     rw[lM hl ht,fq];rfl
    rw[q']at kk
    have:=kk H5 (fk.oth s5) (hS.same s5)
    rw[Ip]at this
    exact this
   |cons d r=>
    refine rk ?_
    obtain⟨hq,hm,np⟩:=LA d az
    have q':jJ S (.mv w e)=(.ok (txT d.1.2),(some l,some d.1.2)):=by
     show both S _=_
     rw[lM hl ht,fq];rfl
    rw[q']at kk
    obtain⟨T2,l2,n2⟩:=yc ok it.2 it.1 hm
    have pq:d.2≠sa:=λz=>np (by rw[z];exact hS.pd)
    have pp:pf≠sa:=λz=>qA hS nf (by rw[z];exact hS.pd)
    refine⟨_,rfl,pf,_,_,_,rfl,rfl,SqL.of hf,jS (j:=0) rfl,_,rfl,sa,_,1,1,rfl,rfl,s5 _ _ hd,rfl,?_⟩
    have S6:Oth sa H (upd H5 sa (.lst ([v,u].set 1 (.ref d.2)))):=Oth.upd (fk.oth s5)
    refine⟨_,rfl,pf,_,_,_,rfl,rfl,SqL.of (by rw[fE pp];exact hf),jS (j:=0) rfl,.ref d.2,_,rfl,gR (by rw[fE pq];exact hq),isT.okN il ⟨n2,T2⟩,λH6 s6=>?_⟩
    refine kk H6 (S6.trans (fk.oth s6)) (Stt.same (Stt.put hS s5 (Da.same (hG s5) hv1) (gR ?_)) s6)
    rw[gL np];exact hq
end
section
variable {P:Program}{w:World}{K:PySem.W.Frag}{mg:Str->Option Value}{base:Heap}{C c7:Addr}{kr ka:List (Str×Addr)}{cs:List Addr}
noncomputable abbrev FV (P:Program)(w:World)(K:PySem.W.Frag)(mg:Str->Option Value)(base:Heap):=FnV P w K mg base (CXr P w base) 7
structure Am (P:Program)(w:World)(K:PySem.W.Frag)(mg:Str->Option Value)(base:Heap)(kr ka:List (Str×Addr))(C:Addr)(cs:List Addr):Prop where
 line:∃ f,ma kr (Str.ofString "line")=some f/\FV P w K mg base f (lz K C cs 2100 qr)
 kh:∃ f,ma kr (Str.ofString "train")=some f/\FV P w K mg base f (lz K C cs 800 kG)
 on:∃ f,ma kr (Str.ofString "on")=some f/\FV P w K mg base f (lz K C cs 800 (dGo (Str.ofString "on")))
 back:∃ f,ma kr (Str.ofString "back")=some f/\FV P w K mg base f (lz K C cs 800 (dGo (Str.ofString "back")))
 round:∃ f,ma ka (Str.ofString "round")=some f/\FV P w K mg base f (nG K C cs sE)
 here:∃ f,ma ka (Str.ofString "here")=some f/\FV P w K mg base f (nG K C cs xg)
 moves:∃ f,ma ka (Str.ofString "moves")=some f/\FV P w K mg base f (nG K C cs sF)
theorem qX {z:Str}{n:Nat}{Dd:DS->Str->Ans}(hx:(32:Nat)∉x.cps.toList)(xl:x.length<=100)(hz:z≠Str.empty)(zl:z.length<=n)(n3:n<=3000)(hf:∃ f,ma kr x=some f/\FV P w K mg base f (lz K C cs n Dd))(hD:Dsk K C p H d S)(dS:DOk S):
  BW P w K mg base kr ka c7 C cs H d p (x++chS 32++z) (Dd S z):=by
 intro H' Q E s hQ
 obtain⟨f,hk,hf⟩:=hf
 have e:prt (x++chS 32++z)=(x,chS 32,z):=D8 hx
 refine⟨d,_,rfl,?_,?_,?_,?_⟩
 ·rw[aB,aB]
  have:(chS 32).length=1:=rfl
  omega
 ·rw[e]
  intro g _ hg
  rw[hk]at hg
  cases hg
  exact⟨_,hf,λH2 s2=>⟨d,z,S,p,rfl,hD.same (s.trans s2),dS,zl,hQ.same s2⟩⟩
 ·rw[e]
  intro g h
  rcases h with h |h
  ·exact absurd h hz
  ·rw[hk]at h;cases h
 ·rw[e]
  intro h
  rcases h with h |h
  ·exact absurd h hz
  ·rw[hk]at h;cases h
theorem uz {Dd:DS->Ans}(hx:(32:Nat)∉x.cps.toList)(xl:x.length<=100)(hf:∃ f,ma ka x=some f/\FV P w K mg base f (nG K C cs Dd))(hD:Dsk K C p H d S)(dS:DOk S):
  BW P w K mg base kr ka c7 C cs H d p x (Dd S):=by
 intro H' Q E s hQ
 obtain⟨f,hk,hf⟩:=hf
 have e:prt x=(x,Str.empty,Str.empty):=Fy hx
 refine⟨d,_,rfl,by omega,?_,?_,?_⟩
 ·rw[e]
  intro g h
  exact absurd rfl h
 ·rw[e]
  intro g _ _ hg
  rw[hk]at hg
  cases hg
  exact⟨_,hf,λH2 s2=>⟨d,S,p,rfl,hD.same (s.trans s2),dS,hQ.same s2⟩⟩
 ·rw[e]
  intro _ h
  rcases h with h |h
  ·exact absurd rfl h
  ·rw[hk]at h;cases h
theorem DJ (DD:Am P w K mg base kr ka C cs){c:Cm}(hc:c.ok)(hD:Dsk K C p H d S)(dS:DOk S):BW P w K mg base kr ka c7 C cs H d p c.row (jJ S c):=by
 cases c with
 |line l=>
  have sm:=fW.small (show fW l from hc)
  have rd:=DM sm
  have:=qX (c7:=c7) (ka:=ka) (x:=Str.ofString "line") (z:=txL l) (by decide +kernel) (by decide +kernel) (λz=>by rw[z]at rd;revert rd;exact λh=>absurd h (by have:kB Str.empty=none:=(by decide +kernel);rw[this];intro z;cases z)) (by have:=(rL sm).2;omega) (by decide) DD.line hD dS
  rw[BS rd hc]at this
  exact this
 |kh ns=>
  obtain⟨oN,hne⟩:=hc
  obtain⟨rd,ln⟩:=Gm oN hne
  have:=qX (c7:=c7) (ka:=ka) (x:=Str.ofString "train") (z:=txT ns) (by decide +kernel) (by decide +kernel) (λz=>by rw[z]at rd;have q:rdT Str.empty=none:=(by decide +kernel);rw[q]at rd;cases rd) (by omega) (by decide) DD.kh hD dS
  have e:kG S (txT ns)=jJ S (.kh ns):=by unfold kG;rw[rd];rfl
  rw[e]at this
  exact this
 |mv x e=>
  obtain⟨hw,e0,e1⟩:=hc
  obtain⟨rd,fr,ln⟩:=iF e0 e1
  have q:dGo x S (txE e)=jJ S (.mv x e):=by unfold dGo;rw[rd];rfl
  have hz:txE e≠Str.empty:=λz=>by rw[z]at rd;have q:lC Str.empty.cps.toList=none:=(by decide +kernel);rw[q]at rd;cases rd
  rw[<-q]
  rcases hw with rfl |rfl
  ·exact qX (by decide +kernel) (by decide +kernel) hz (by omega) (by decide) DD.on hD dS
  ·exact qX (by decide +kernel) (by decide +kernel) hz (by omega) (by decide) DD.back hD dS
 |round=>exact uz (by decide +kernel) (by decide +kernel) DD.round hD dS
 |here=>exact uz (by decide +kernel) (by decide +kernel) DD.here hD dS
 |moves=>exact uz (by decide +kernel) (by decide +kernel) DD.moves hD dS
theorem rD (hk:∀ l t j,S.1=some l->(k l t).1 = .error j->j<7/\(k l t).2=S){j:Nat}(h:(both S k).1 = .error j):j<7/\(both S k).2=S:=by
 cases h1:S.1 with
 |none=>rw[lN h1]at h ⊢;cases h;exact⟨by decide,rfl⟩
 |some l=>
  cases h2:S.2 with
  |none=>rw[mJ h1 h2]at h ⊢;cases h;exact⟨by decide,rfl⟩
  |some t=>rw[lM h1 h2]at h ⊢;exact hk l t j h1 h
theorem BK {c:Cm}{j:Nat}(h:(jJ S c).1 = .error j):j<7/\(jJ S c).2=S:=by
 cases c with
 |line l=>cases h
 |kh ns=>
  unfold jJ at h ⊢
  revert h
  cases S.1 with
  |none=>intro h;cases h;exact⟨by decide,rfl⟩
  |some l=>
   dsimp only
   split
   ·intro h;cases h
   ·intro h;cases h;exact⟨by decide,rfl⟩
 |mv x e=>
  refine rD (λl t j _=>?_) h
  cases fnd (mvs l t) (x,e)with
  |none=>intro h;cases h;exact⟨by decide,rfl⟩
  |some b=>intro h;cases h
 |round=>exact rD (λl t j _ h=>by cases h) h
 |here=>exact rD (λl t j _ h=>by cases h) h
 |moves=>exact rD (λl t j _ h=>by cases h) h
theorem HV (dS:DOk S){c:Cm}(hc:c.ok):DOk (jJ S c).2:=by
 have bo:∀ {k:Ln->List Int->Ans},(∀ l t,S.1=some l->S.2=some t->DOk (k l t).2)->DOk (both S k).2:=λhk=>by
  cases h1:S.1 with
  |none=>rw[lN h1];exact dS
  |some l=>
   cases h2:S.2 with
   |none=>rw[mJ h1 h2];exact dS
   |some t=>rw[lM h1 h2];exact hk l t h1 h2
 have two:∀ {l:Ln}{t:List Int},fW l->isT l t->DOk (some l,some t):=λil it=>⟨λl h=>by cases h;exact il,λt h=>by cases h;exact⟨_,rfl,it⟩⟩
 cases c with
 |line l=>exact⟨λl' h=>by cases h;exact hc,λt h=>by cases h⟩
 |kh ns=>
  unfold jJ
  cases h1:S.1 with
  |none=>exact dS
  |some l=>
   dsimp only
   split
   ·rename_i it;exact two (dS.l l h1) it
   ·exact dS
 |mv x e=>
  refine bo λl t h1 h2=>?_
  obtain⟨l',h1',it⟩:=dS.t t h2
  rw[h1]at h1'
  cases h1'
  cases q:fnd (mvs l t) (x,e)with
  |none=>exact dS
  |some b=>
   unfold fnd at q
   obtain⟨mm,h3,h4⟩:=cx.mp q
   subst h4
   obtain⟨T2,_,n2⟩:=yc (fW.ok (dS.l l h1)) it.2 it.1 (cZ h3)
   exact two (dS.l l h1) ⟨n2,T2⟩
 |round=>
  refine bo λl t h1 h2=>?_
  obtain⟨l',h1',it⟩:=dS.t t h2
  rw[h1]at h1'
  cases h1'
  exact two (dS.l l h1) ⟨by simpa using it.1,rN (fW.ok (dS.l l h1)) it.2⟩
 |here=>exact bo λl t h1 h2=>dS
 |moves=>exact bo λl t h1 h2=>dS
end
noncomputable def yW (K:PySem.W.Frag):Sp:=λvs H Q _=>∃ (s:Addr) (n:Int) (x:V) (S:DS) (p:Addr->Prop) (l:Ln),vs = [.ref s,.int n,x]/\Stt K p H s S/\DOk S/\0<=n/\Da K (gm p H) (dL l) x/\fW l/\
 ∀ (c:Cm) (v:V) (t:Addr) (H':Hp),c.ok->fk H H'->Thing K H' p c v->H' t=some (.tup [.str c.word,v,.str c.row])->Q (.ref t) H'
theorem FG:Str.ofString "line " = Str.ofString "line" ++ chS 32:=by decide +kernel
theorem Dw:Str.ofString "train " = Str.ofString "train" ++ chS 32:=by decide +kernel
noncomputable abbrev iX:Stmt:=top 101
theorem gj:fC ["_law_state","_law_number","_law_line_here","_law_way","_law_train_here","_law_move","_law_some","_law_word"] ["_law_state","_law_number","_law_line_here"] (fh iX):=⟨rfl,rfl,rfl,by decide +kernel,rfl,by decide +kernel,by decide +kernel⟩
theorem jV:gq (fh iX) ["_law_state","_law_number","_law_line_here","_law_way","_law_train_here","_law_move","_law_some","_law_word"] {kind:=.function,names:=[(Str.ofString ".0",.local),(Str.ofString "_law_one",.local),(Str.ofString "_law_behind",.local)],isGenerator:=false,isCoroutine:=false,more:=[]} ["_law_one","_law_behind"] 2 [none,none]:=⟨rfl,by decide +kernel,by decide +kernel,by decide +kernel,rfl,by decide +kernel,rfl,by decide +kernel⟩
section
variable {P:Program}{w:World}{K:PySem.W.Frag}{mg:Str->Option Value}{base:Heap}{f:Addr}{fd:FuncData}
theorem rZ (F:Fn K mg "_law_drawn_row" iX ["_law_state","_law_number","_law_line_here"] f fd)(B:Bm mg)
  (iw:Fn K mg "_law_line_text" jP ["_law_line_here"] f1 fd1) (lO:fm P w K mg base CX0 2 f1 fd1 ["_law_line_here"] (yU K))
  (gA:Fn K mg "_law_moves" j8 ["_law_line_here","_law_train_here"] f2 fd2) (jx:fm P w K mg base CX0 2 f2 fd2 ["_law_line_here","_law_train_here"] (uo K))
  (kg:Fn K mg "_law_train" j6 ["_law_line_here","_law_number","_law_most"] f3 fd3) (pU:fm P w K mg base CX0 2 f3 fd3 ["_law_line_here","_law_number","_law_most"] (yT K))
  (fR:Fn K mg "_law_train_text" ic ["_law_train_here"] f4 fd4) (gX:fm P w K mg base CX0 2 f4 fd4 ["_law_train_here"] (nF K))
  (fv:Fn K mg "_law_end_text" ig ["_law_end"] f5 fd5) (gE:fm P w K mg base CX0 1 f5 fd5 ["_law_end"] o8):
  fm P w K mg base CX0 3 f fd ["_law_state","_law_number","_law_line_here"] (yW K):=by
 refine F.F.ok gj (λvs H Q E h=>?_) (λcdv A outer s H vs Q E hr h=>?_)
 ·obtain⟨s,n,x,S,p,l,rfl,_⟩:=h;rfl
 ·obtain⟨sa,n,x,S,p,l,rfl,hS,dS,n0,hx,il,kk⟩:=h
  obtain⟨v,u,hd,hv,hu⟩:=hS.at_
  have hdl:=SqL.of (K:=K) hd
  refine⟨_,(fb (fQ (i:=3) gj.nd rfl (Or.inl rfl) (fo gM (pv 1) fc))
 (fb (fQ (i:=1) gj.nd rfl (Or.inl rfl) (fo gH (pv 1) fc))
 (fb (gf (gw (qy (pv 3) fc))
 (fe (fz (iE (eW fw (eW (pv 2) (eW (fo gO fw (fj lO (hr.mono (by decide)) rfl iw.m iw.F.kp iw.b .nil fM (eW (pv 2) eX))) eX)))))) fD)
 (fb (gf (gw (tq (pv 3) fc))
 (fb (fQ (i:=4) gj.nd rfl (Or.inl rfl) (gB (eW (fo gM (pv 1) fc) eX)))
 (fb (gf (gw (Bs (gr gh (pv 0) fc (λ_ _=>rfl))))
 (fe (fQ (i:=4) gj.nd rfl (Or.inl rfl) (fj pU (hr.mono (by decide)) rfl kg.m kg.F.kp kg.b .nil fM (eW (gr gh (pv 0) fc (λ_ _=>rfl)) (eW (pv 1) (eW (gr gh (gB (eW fc (eW fc eX))) (kc sH rfl B.int boot_int (eW (Hb (qy (fo gM (fo gH (pv 1) fc) fc) fc)) eX)) (λ_ _=>rfl)) eX)))))) fD)
 (fb (gf (gw (qy (fo gM (pv 1) fc) fc))
 (fe (fQ (i:=4) gj.nd rfl (Or.inl rfl) (fo oo (pv 4) (gB (eW (fo gM (fo gH (pv 1) fc) fc) eX))))) fD)
 (fe (fz (iE (eW fw (eW (pv 4) (eW (fo gO fw (fj gX (hr.mono (by decide)) rfl fR.m fR.F.kp fR.b .nil fM (eW (pv 4) eX))) eX))))))))) fD)
 (fb (gf (gw (tq (pv 3) fc))
 (fb (fQ (i:=5) gj.nd rfl (Or.inl rfl) (iE (eW (gr gh (gB (eW fw (eW fw eX))) (fo gM (pv 1) fc) (λ_ _=>rfl)) (eW (fo gM (fo gH (pv 1) fc) fc) eX))))
 (fb (gf (PW.pt (uD (gw (tq (pv 3) fc)) (qY (gw (Bs (gr gh (pv 0) fc (λ_ _=>rfl)))))))
 (fb (uE (i:=6) gj.nd rfl rfl (gg (fj jx (hr.mono (by decide)) rfl gA.m gA.F.kp gA.b .nil fM (eW (gr gh (pv 0) fc (λ_ _=>rfl)) (eW (gr gh (pv 0) fc (λ_ _=>rfl)) eX)))) rfl jV (.tup (.cons (.name (by decide)) (.cons (.name (by decide)) .nil))) (λ_ _ _ _=>(jr (n:=2) rfl (fH (ft (i:=0) jV.nd rfl (Or.inl rfl)) (fH (ft (i:=1) jV.nd rfl (Or.inl rfl)) g9)))) (λ_ _ _ _=>gZ) (λ_ _ _ _=>(pv 0)))
 (fe (fQ (i:=5) gj.nd rfl (Or.inl rfl) (gr gh (fo oo (pv 6) (gB (eW (pv 5) eX))) (fo gM (fo gH (pv 1) fc) (fo jd (gd iB rfl B.len dZ (eW (pv 6) eX)) (kc sH rfl B.int boot_int (eW (t9 (uO hr.units) (pv 6) (gB eX) (iS _)) eX)))) (λ_ _=>rfl))))) fD)
 (fe (fz (iE (eW (gr lI (pv 5) fc (λ_ _=>rfl)) (eW (gr lI (pv 5) fc (λ_ _=>rfl)) (eW (fo gO (fo gO (gr lI (pv 5) fc (λ_ _=>rfl)) fw) (fj gE (hr.mono (by decide)) rfl fv.m fv.F.kp fv.b .nil fM (eW (gr lI (pv 5) fc (λ_ _=>rfl)) eX))) eX)))))))) fD)
 (fb (fQ (i:=7) gj.nd rfl (Or.inl rfl) (gr gh (gB (eW fw (eW fw (eW fw eX)))) (fo xU (pv 3) fc) (λ_ _=>rfl)))
 (fe (fz (iE (eW (pv 7) (eW lH (eW (pv 7) eX)))))))))))),?_⟩
  refine⟨_,rfl,_,_,rfl,rfl,(by show(0:Int)<10;decide),_,rfl,_,_,rfl,rfl,⟨by decide,by decide⟩,?_⟩
  have w0:0<=n%10:=by omega
  have w1:n%10<10:=by omega
  have m0:0<=n/10:=by omega
  dsimp only[pG]
  generalize n%10=wy at w0 w1
  generalize n/10=m at m0
  refine TL.nm λR1 hR1=>?_
  refine⟨_,rfl,_,_,rfl,rfl,_,rfl,fY (λ_=>?_) (λh=>?_)⟩
  ·refine⟨_,rfl,_,rfl,x,l,rfl,Da.same fN hx,fW.small il,λH1 s1=>?_⟩
   have tl:=(rL (fW.small il)).2
   refine⟨_,_,rfl,rfl,by rw[aM];have:(Str.ofString "line ").length=5:=(by decide +kernel);omega,by show 3<=sizeLine;decide,λt nt=>?_⟩
   have e:Str.ofString "line " ++ txL l=(Cm.line l).row:=by show _=Str.ofString "line" ++ chS 32++txL l;rw[FG]
   rw[e]
   have s2:=s1.trans (eY (o:=.tup [.str "line",x,.str (Cm.line l).row]) nt)
   exact kk (.line l) x t _ il s2 (Da.same (hG s2) hx) eZ
  have h0:¬wy=0:=by simpa using h
  refine hR1 _ _ _ ?_
  refine TL.nm λR2 hR2=>?_
  refine⟨_,rfl,_,_,rfl,rfl,_,rfl,fY (λ_=>?_) (λh=>?_)⟩
  ·refine⟨_,rfl,_,_,rfl,rfl,(by show(0:Int)<30;decide),by show 1<=sizeLine;decide,λq0 nq0=>?_⟩
   have s0:=eY (o:=.lst [.int (m%30)]) nq0
   have hq0:=eZ (H:=H) (a:=q0) (o:=.lst [.int (m%30)])
   generalize upd H q0 _=H1 at s0 hq0 ⊢
   dsimp only[pG]
   refine t7 (λσ G=>∃ (q:Addr) (ns:List Int),σ = [some (.ref sa),some (.int m),some x,some (.int wy),some (.ref q),none,none,none]/\fk H G/\H q=none/\G q=some (.lst (ns.map V.int))/\ns≠ []/\ns.length<=40/\∀ e∈ns,0<=e/\e<82) (λnx kn=>?_) ?_
   ·refine⟨_,rfl,sa,_,_,v,rfl,rfl,s0.seq hdl,rfl,_,rfl,fY (λh=>?_) (λh=>kn _ _ ⟨q0,[m%30],rfl,s0,nq0,hq0,by simp,by simp,λe he=>?_⟩)⟩
    ·obtain⟨ln,hl⟩:∃ l,S.1=some l:=by
      cases q:S.1 with
      |none=>exact absurd ((hZ hv).mpr q) (by simpa using h)
      |some l=>exact⟨l,rfl⟩
     have iln:=dS.l ln hl
     rw[hl]at hv
     have hv:Da K (gm p H) (dL ln) v:=hv
     refine⟨_,rfl,sa,_,_,v,rfl,rfl,s0.seq hdl,rfl,_,rfl,by show 2<=sizeLine;decide,λpl npl=>?_⟩
     have s1:=s0.trans (eY (o:=.lst [.int 6,.int 40]) npl)
     have hpl:=eZ (H:=H1) (a:=pl) (o:=.lst [.int 6,.int 40])
     generalize upd H1 pl _=H2 at s1 hpl ⊢
     have pick:∀ b:Bool,∃ k:Int,atI [V.int 6,V.int 40] (if b=true then 1 else 0)=some (.int k)/\1<=k/\k<=40:=λb=>by
      cases b
      ·exact⟨6,rfl,by decide,by decide⟩
      ·exact⟨40,rfl,by decide,by decide⟩
     obtain⟨k,hk,k1,k40⟩:=pick (decide (m/70%8=1))
     refine⟨_,rfl,_,_,rfl,rfl,⟨by decide,by decide⟩,_,_,rfl,rfl,(by show(0:Int)<8;decide),_,_,rfl,rfl,.inr ⟨_,rfl,pl,_,_,.int k,rfl,rfl,SqL.of hpl,hk,?_⟩⟩
     refine⟨v,ln,m,k,rfl,Da.same (fN.trans s1) hv,fW.ok iln,fW.ne iln,m0,k1,k40,λq ns H3 s3 nq hq hne nl T=>kn _ _ ⟨q,ns,rfl,s1.trans s3,fk.free s1 nq,hq,hne,by omega,λe he=>?_⟩⟩
     have:=T.ends e he
     have:=iln.2.1
     omega
    ·have he:e=m%30:=by simpa using he
     omega
   rintro σ G ⟨q,ns,rfl,sG,nq,hq,hne,nl,al⟩
   refine t7 (λσ G=>∃ (q:Addr) (ns:List Int),σ = [some (.ref sa),some (.int m),some x,some (.int wy),some (.ref q),none,none,none]/\fk H G/\H q=none/\G q=some (.lst (ns.map V.int))/\ns≠ []/\OkN ns) (λnx kn=>?_) ?_
   ·refine⟨_,rfl,_,_,rfl,rfl,(by show(0:Int)<7;decide),_,_,rfl,rfl,_,rfl,fY (λh=>?_) (λh=>kn _ _ ⟨q,ns,rfl,sG,nq,hq,hne,by omega,al⟩)⟩
    refine⟨_,rfl,_,rfl,_,_,rfl,rfl,⟨by decide,by decide⟩,_,_,rfl,rfl,(by show(0:Int)<30;decide),by show 1<=sizeLine;decide,λp1 n1=>?_⟩
    have s1:=eY (o:=.lst [.int (m/7%30)]) n1
    refine⟨q,p1,_,_,rfl,rfl,s1 _ _ hq,eZ,bZ (jf (by rw[aa];show ns.length+1<=1000;omega)),λp2 n2=>?_⟩
    have s2:=s1.trans (eY (o:=.lst (ns.map V.int ++ [.int (m/7%30)])) n2)
    refine kn _ _ ⟨p2,ns ++ [m/7%30],rfl,sG.trans s2,fk.free (sG.trans s1) n2,by rw[eZ,aX];rfl,by simp,by rw[aU];show ns.length+1<=41;omega,λe he=>?_⟩
    rcases aJ.mp he with z |z
    ·exact al e z
    ·have z:e=m/7%30:=by simpa using z
     omega
   rintro σ G ⟨q,ns,rfl,sG,nq,hq,hne,oN⟩
   refine⟨_,rfl,_,rfl,.ref q,ns,rfl,gR hq,oN,λH1 s1=>?_⟩
   have tl:=(Gm oN hne).2
   refine⟨_,_,rfl,rfl,by rw[aM];have:(Str.ofString "train ").length=6:=(by decide +kernel);omega,by show 3<=sizeLine;decide,λt nt=>?_⟩
   have e:Str.ofString "train " ++ txT ns=(Cm.kh ns).row:=by show _=Str.ofString "train" ++ chS 32++txT ns;rw[Dw]
   rw[e]
   have s2:=s1.trans (eY (o:=.tup [.str "train",.ref q,.str (Cm.kh ns).row]) nt)
   refine kk (.kh ns) (.ref q) t _ ⟨oN,hne⟩ (sG.trans s2) (gR ?_) eZ
   rw[gL (qA hS nq)]
   exact s2 _ _ hq
  have h1:¬wy<3:=by simpa using h
  refine hR2 _ _ _ ?_
  refine TL.nm λR3 hR3=>?_
  refine⟨_,rfl,_,_,rfl,rfl,_,rfl,fY (λ_=>?_) (λh=>?_)⟩
  ·refine⟨by show 2<=sizeLine;decide,λpw npw=>?_⟩
   have s0:=eY (o:=.lst [.str "on",.str "back"]) npw
   have hpw:=eZ (H:=H) (a:=pw) (o:=.lst [.str "on",.str "back"])
   generalize upd H pw _=H1 at s0 hpw ⊢
   obtain⟨wd,hwd,hw⟩:∃ wd:Str,atI [V.str (Str.ofString "on"),.str (Str.ofString "back")] (m%2)=some (.str wd)/\(wd=Str.ofString "on" \/wd=Str.ofString "back"):=by
    have c:m%2=0\/m%2=1:=by omega
    rcases c with e |e
    ·rw[e];exact⟨_,rfl,.inl rfl⟩
    ·rw[e];exact⟨_,rfl,.inr rfl⟩
   refine⟨_,rfl,_,_,rfl,rfl,(by show(0:Int)<2;decide),pw,_,_,.str wd,rfl,rfl,SqL.of hpw,hwd,?_⟩
   refine⟨_,rfl,_,_,rfl,rfl,⟨by decide,by decide⟩,_,_,rfl,rfl,(by show(0:Int)<30;decide),by show 2<=sizeLine;decide,λpm npm=>?_⟩
   have s1:=s0.trans (eY (o:=.tup [.str wd,.int (m/2%30)]) npm)
   have hpm:=eZ (H:=H1) (a:=pm) (o:=.tup [.str wd,.int (m/2%30)])
   generalize upd H1 pm _=H2 at s1 hpm ⊢
   dsimp only[pG]
   refine t7 (λσ G=>∃ (q:Addr) (wd:Str) (e:Int) (x6:Option V),σ = [some (.ref sa),some (.int m),some x,some (.int wy),none,some (.ref q),x6,none]/\fk H G/\SqT K G q [.str wd,.int e]/\(wd=Str.ofString "on" \/wd=Str.ofString "back")/\0<=e/\e<82) (λnx kn=>?_) ?_
   ·have qi:=kn [some (.ref sa),some (.int m),some x,some (.int wy),none,some (.ref pm),none,none] H2 ⟨pm,wd,m/2%30,none,rfl,s1,SqT.of hpm,hw,by omega,by omega⟩
    refine⟨_,rfl,_,_,rfl,rfl,_,rfl,fY (λ_=>⟨_,rfl,sa,_,_,u,rfl,rfl,s1.seq hdl,rfl,_,rfl,fY (λh=>?_) (λh=>qi)⟩) (λ_=>rk qi)⟩
    obtain⟨t,ht⟩:∃ t,S.2=some t:=by
     cases q:S.2 with
     |none=>exact absurd ((iP hu).mpr q) (by simpa using h)
     |some l=>exact⟨l,rfl⟩
    obtain⟨ln,hl,it⟩:=dS.t t ht
    have iln:=dS.l ln hl
    have ok:=fW.ok iln
    rw[hl]at hv
    have hv:Da K (gm p H) (dL ln) v:=hv
    rw[ht]at hu
    have hu:Da K (gm p H) (dI t) u:=hu
    have oN:=isT.okN iln it
    have ml:=ua ok t
    refine⟨_,rfl,sa,_,_,v,rfl,rfl,s1.seq hdl,rfl,_,rfl,sa,_,_,u,rfl,rfl,s1.seq hdl,rfl,v,u,ln,t,rfl,Da.same (fN.trans s1) hv,Da.same (fN.trans s1) hu,ok,fW.ne iln,it.1,by have:=oN.1;omega,λpv vv H3 s3 npv hpv Dv=>⟨pv,rfl,⟨_,SqL.of hpv⟩,λps nps=>va (K:=K) hpv Dv (by omega) nps λus H4 s4 hps D4=>?_⟩⟩
    have ul:us.length=(mvs ln t).length:=by have:=Dgs.length D4;rw[aa,aa]at this;exact this
    have D4:=Das.same (K:=K) (pF (p:=ps)) D4
    refine⟨_,rfl,_,rfl,by show 1<=sizeLine;decide,λp1 n1=>?_⟩
    have s5:=eY (o:=.lst [.ref pm]) n1
    refine⟨ps,p1,us,_,rfl,rfl,s5 _ _ hps,eZ,bZ (jf (by show us.length+1<=1000;omega)),λpc npc=>?_⟩
    have s6:=s5.trans (eY (o:=.lst (us ++ [.ref pm])) npc)
    have hpc:=eZ (H:=upd H4 p1 (.lst [.ref pm])) (a:=pc) (o:=.lst (us ++ [.ref pm]))
    generalize upd (upd H4 p1 _) pc _=H6 at s6 hpc ⊢
    refine⟨_,rfl,_,_,rfl,rfl,⟨by decide,by decide⟩,_,rfl,ps,us,rfl,.inl (SqL.of (s6 _ _ hps)),?_⟩
    refine⟨_,rfl,aP _,λpe npe=>?_⟩
    have s7:=s6.trans (eY (o:=.lst []) npe)
    have hpc:=(eY (o:=.lst []) npe) _ _ hpc
    have hpe:=eZ (H:=H6) (a:=pe) (o:=.lst [])
    generalize upd H6 pe _=H7 at s7 hpc hpe ⊢
    have S7:=s1.trans (s3.trans (s4.trans s7))
    have DD:Da K H7 (dR ((mvs ln t).map (·.1))) (.ref ps):=jg.mpr ⟨ps,us,rfl,SqL.of (s7 _ _ hps),Das.same s7 D4⟩
    refine⟨_,.list [],DD,gR (ns:=[]) hpe,Gs (λk hk=>by obtain⟨mm,hm,rfl⟩:=aH.mp hk;exact rP ln t mm hm),rg,?_⟩
    have ee:PyData.eqv (dR ((mvs ln t).map (·.1))) (.list [])=(((mvs ln t).map (·.1)).map dM).isEmpty:=kE _
    rw[ee]
    have pos:0<(us.length:Int)+(if(((mvs ln t).map (·.1)).map dM).isEmpty=true then(1:Int)else 0)/\(us.length:Int)+(if(((mvs ln t).map (·.1)).map dM).isEmpty=true then(1:Int)else 0)<=us.length+1:=by
     rw[ul]
     cases mvs ln t with
     |nil=>exact⟨by decide,by decide⟩
     |cons a r=>simp;omega
    generalize hdv:(us.length:Int)+(if(((mvs ln t).map (·.1)).map dM).isEmpty=true then(1:Int)else 0)=dv at pos
    have j0:=cb (m/64) (show dv≠0 by omega)
    have j1:=bM (m/64) pos.1
    obtain⟨q,wd',e',hat,hq,hw',e0,e1⟩:∃ (q:Addr) (wd:Str) (e:Int),atI (us ++ [.ref pm]) (m/64%dv)=some (.ref q)/\SqT K H7 q [.str wd,.int e]/\(wd=Str.ofString "on" \/wd=Str.ofString "back")/\0<=e/\e<82:=by
     by_cases c:(m/64%dv).toNat<us.length
     ·have hy:us[(m/64%dv).toNat]? = some us[(m/64%dv).toNat]:=ao c
      obtain⟨d,h1,h2⟩:=Dgs.get D4 hy
      rw[br,aq]at h1
      obtain⟨mm,hmm,rfl⟩:=cx.mp h1
      obtain⟨q,e1,htm⟩:=F1 (show Da K H4 (dM mm.1) _ from h2)
      obtain⟨w1,w2,w3⟩:=sh ok (aD hmm)
      refine⟨q,_,_,E4 j0 ?_,gT s7 htm,w1,w2,by have:=iln.2.1;omega⟩
      rw[ba c,hy,e1]
     ·have c2:(m/64%dv).toNat=us.length:=by omega
      refine⟨pm,wd,m/2%30,E4 j0 ?_,SqT.of ((s3.trans (s4.trans s7)) _ _ hpm),hw,by omega,by omega⟩
      rw[c2,bf (ai _),cP];rfl
    subst hdv
    refine .inr ⟨_,rfl,_,_,rfl,rfl,_,_,rfl,rfl,pos.1,pc,_,_,.ref q,rfl,rfl,SqL.of hpc,hat,?_⟩
    exact kn _ _ ⟨q,wd',e',_,rfl,S7,hq,hw',e0,e1⟩
   rintro σ G ⟨q,wd,e,x6,rfl,sG,hq,hw,e0,e1⟩
   have wl:=(nD hw).2
   have el:=(iF e0 e1).2.2
   have bl:(Str.ofString " ").length=1:=by decide +kernel
   refine⟨_,rfl,q,_,_,_,rfl,rfl,hq,rfl,_,rfl,q,_,_,_,rfl,rfl,hq,rfl,_,rfl,q,_,_,_,rfl,rfl,hq,rfl,_,_,rfl,rfl,by rw[aM];omega,_,rfl,q,_,_,_,rfl,rfl,hq,rfl,e,rfl,e0,e1,λH1 s1=>⟨_,_,rfl,rfl,by rw[aB,aM];omega,by show 3<=sizeLine;decide,λt nt=>?_⟩⟩
   have er:wd++Str.ofString " " ++ txE e=(Cm.mv wd e).row:=by show _=wd++chS 32++txE e;rw[kJ]
   rw[er]
   have s2:=s1.trans (eY (o:=.tup [.str wd,.int e,.str (Cm.mv wd e).row]) nt)
   exact kk (.mv wd e) (.int e) t _ ⟨hw,e0,e1⟩ (sG.trans s2) rfl eZ
  have h2:¬wy<7:=by simpa using h
  refine hR3 _ _ _ ?_
  refine⟨by show 3<=sizeLine;decide,λpl npl=>?_⟩
  have hpl:=eZ (H:=H) (a:=pl) (o:=.lst [V.str "round",V.str "here",V.str "moves"])
  have s1:=eY (o:=.lst [V.str "round",V.str "here",V.str "moves"]) npl
  generalize upd H pl _=H1 at hpl s1 ⊢
  obtain⟨c,hc,hcw,hcr,hct⟩:∃ c:Cm,atI [V.str (Str.ofString "round"),.str (Str.ofString "here"),.str (Str.ofString "moves")] (wy-7)=some (.str c.word)/\c.ok/\c.row=c.word/\∀ G,Thing K G p c .non:=by
   have c:wy=7\/wy=8\/wy=9:=by omega
   rcases c with e |e |e
   ·rw[e];exact⟨.round,rfl,True.intro,rfl,λ_=>rfl⟩
   ·rw[e];exact⟨.here,rfl,True.intro,rfl,λ_=>rfl⟩
   ·rw[e];exact⟨.moves,rfl,True.intro,rfl,λ_=>rfl⟩
  refine⟨_,rfl,_,_,rfl,rfl,pl,_,_,.str c.word,rfl,rfl,SqL.of hpl,hc,?_⟩
  refine⟨_,rfl,_,rfl,by show 3<=sizeLine;decide,λt nt=>?_⟩
  have s2:=s1.trans (eY (o:=.tup [.str c.word,.non,.str c.word]) nt)
  refine kk c .non t _ hcw s2 (hct _) ?_
  rw[hcr];exact eZ
end
noncomputable def nv (d s:Addr)(H H':Hp):Prop:=∀ a o,a≠d->a≠s->H a=some o->H' a=some o
theorem nv.of {s:Addr}{H2:Hp}(h:Oth d H H1)(k:Oth s H1 H2):nv d s H H2:=λa o h1 h2 e=>k a o h2 (h a o h1 e)
theorem nv.trans {s:Addr}{H2:Hp}(h:nv d s H H1)(k:nv d s H1 H2):nv d s H H2:=λa o h1 h2 e=>k a o h1 h2 (h a o h1 h2 e)
theorem nv.same {s:Addr}(h:fk H H1):nv d s H H1:=λa o _ _ e=>h a o e
variable {H':Hp}
theorem nv.hid {s:Addr}(h:nv d s H H')(pd:p d)(ps:p s):fk (gm p H) (gm p H'):=λa o e=>by
 by_cases z:p a
 ·rw[qb z]at e;cases e
 ·rw[gL z]at e ⊢
  exact h a o (λq=>z (by rw[q];exact pd)) (λq=>z (by rw[q];exact ps)) e
theorem Dsk.IX {a:Addr}(h:Dsk K C p H d S)(s:Oth a H H')(ne:d≠a)(pa:p a)(li:∀ a,p a->LI (H' a)):Dsk K C p H' d S:=by
 obtain⟨dx,v,u,h1,h2,h3⟩:=h.at_
 exact⟨⟨dx,v,u,s _ _ ne h1,h2.same (s.hid pa),h3.same (s.hid pa)⟩,h.pd,li⟩
theorem BL {p':Addr->Prop}{s:Addr}{S':DS}(h:Dsk K C p H d S)(k:Stt K p' H s S'):d≠s:=by
 obtain⟨dx,v,u,h1,_⟩:=h.at_
 obtain⟨v',u',k1,_⟩:=k.at_
 exact zE h1 k1 (by intro z;cases z)
theorem Thing.mono (s:fk (gm p H) (gm p H')):∀ {c:Cm}{v:V},Thing K H p c v->Thing K H' p c v
 |.line _,_,h=>Da.same s h
 |.kh _,_,h=>Da.same s h
 |.mv _ _,_,h=>h
 |.round,_,h=>h
 |.here,_,h=>h
 |.moves,_,h=>h
theorem E3 (h:∀ l t,(k l t).2=S):(both S k).2=S:=by
 unfold both
 cases S.1 with
 |none=>rfl
 |some l=>cases S.2 with
  |none=>rfl
  |some t=>exact h l t
theorem EM:(jJ S .here).2=S:=E3 λ_ _=>rfl
theorem CQ:(jJ S .moves).2=S:=E3 λ_ _=>rfl
noncomputable def Be (K:PySem.W.Frag)(C:Addr):Sp:=λvs H Q _=>∃ (d s:Addr) (n:Int) (x:V) (S:DS) (p:Addr->Prop) (l:Ln),vs = [.ref d,.ref s,.int n,x]/\Dsk K C p H d S/\Stt K p H s S/\DOk S/\0<=n/\Da K (gm p H) (dL l) x/\fW l/\
 ∀ S' H',DOk S'->nv d s H H'->Dsk K C p H' d S'->Stt K p H' s S'->Q (.bl true) H'
noncomputable def Bd (K:PySem.W.Frag)(C:Addr):Sp:=λvs H Q _=>∃ (d s:Addr) (S:DS) (p:Addr->Prop),vs = [.ref d,.ref s]/\Dsk K C p H d S/\Stt K p H s S/\DOk S/\
 ∀ H',nv d s H H'->Dsk K C p H' d S->Stt K p H' s S->Q (.bl true) H'
noncomputable abbrev og:Stmt:=top 103
theorem mU:fC ["_law_desk","_law_state","_law_number","_law_line_here","_law_word","_law_thing","_law_row"] ["_law_desk","_law_state","_law_number","_law_line_here"] (fh og):=⟨rfl,rfl,rfl,by decide +kernel,rfl,by decide +kernel,by decide +kernel⟩
noncomputable abbrev jz:Stmt:=top 102
theorem mV:fC ["_law_desk","_law_state","_law_word"] ["_law_desk","_law_state"] (fh jz):=⟨rfl,rfl,rfl,by decide +kernel,rfl,by decide +kernel,by decide +kernel⟩
section
variable {P:Program}{w:World}{K:PySem.W.Frag}{mg:Str->Option Value}{base:Heap}{f:Addr}{fd:FuncData}{C c7:Addr}{kr ka:List (Str×Addr)}{cs:List Addr}
theorem zq (F:Fn K mg "_law_told" og ["_law_desk","_law_state","_law_number","_law_line_here"] f fd)(DD:Am P w K mg base kr ka C cs)
  (ix:Fn K mg "_law_drawn_row" iX ["_law_state","_law_number","_law_line_here"] f1 fd1) (lP:fm P w K mg base CX0 3 f1 fd1 ["_law_state","_law_number","_law_line_here"] (yW K))
  (iq:Fn K mg "_law_said" mB ["_law_desk","_law_row"] f2 fd2) (lg:fm P w K mg base CX0 9 f2 fd2 ["_law_desk","_law_row"] (xw P w K mg base kr ka c7 C cs))
  (iL:Fn K mg "_law_due" kS ["_law_state","_law_word","_law_thing"] f3 fd3) (mi:fm P w K mg base CX0 3 f3 fd3 ["_law_state","_law_word","_law_thing"] (Au K)):
  fm P w K mg base CX0 10 f fd ["_law_desk","_law_state","_law_number","_law_line_here"] (Be K C):=by
 refine F.F.ok mU (λvs H Q E h=>?_) (λcdv A outer s H vs Q E hr h=>?_)
 ·obtain⟨d,s,n,x,S,p,l,rfl,_⟩:=h;rfl
 ·obtain⟨d,sa,n,x,S,p,l,rfl,hD,hS,dS,n0,hx,il,kk⟩:=h
  refine⟨_,(fb (mD (fj lP (hr.mono (by decide)) rfl ix.m ix.F.kp ix.b .nil fM (eW (pv 1) (eW (pv 2) (eW (pv 3) eX)))) (jr (n:=3) rfl (fH (ft (i:=4) mU.nd rfl (Or.inl rfl)) (fH (ft (i:=5) mU.nd rfl (Or.inl rfl)) (fH (ft (i:=6) mU.nd rfl (Or.inl rfl)) g9)))))
 (fe (fz (t9 tD (fj lg (hr.mono (by decide)) rfl iq.m iq.F.kp iq.b .nil fM (eW (pv 0) (eW (pv 6) eX))) (fj mi (hr.mono (by decide)) rfl iL.m iL.F.kp iL.b .nil fM (eW (pv 1) (eW (pv 4) (eW (pv 5) eX)))) (iS _))))),?_⟩
  refine⟨_,rfl,_,rfl,_,rfl,sa,n,x,S,p,l,rfl,hS,dS,n0,hx,il,λc v t H1 hc s1 hv ht=>?_⟩
  refine⟨t,_,rfl,SqT.of ht,rfl,_,_,rfl,_,_,rfl,_,_,rfl,rfl,?_⟩
  have hD1:=hD.same s1
  have hS1:=hS.same s1
  refine⟨_,rfl,_,rfl,d,c.row,S,p,jJ S c,rfl,hD1,DJ DD hc hD1 dS,λj hj=>BK hj,λH2 o2 D2=>?_⟩
  have ne:=BL hD1 hS1
  have hS2:=hS1.oth o2 (bX ne) hD.pd D2.li
  refine⟨_,rfl,_,rfl,_,rfl,sa,c,v,S,p,rfl,hS2,Thing.mono (o2.hid hD.pd) hv,dS,hc,λH3 o3 S3=>?_⟩
  have D3:=Dsk.IX D2 o3 ne hS.pd S3.li
  have e:decide (V.str (txA (jJ S c).1)=V.str (txA (jJ S c).1))=true:=by simp
  refine⟨rfl,?_⟩
  have:=kk _ H3 (HV dS hc) (nv.trans (nv.same s1) (nv.of o2 o3)) D3 S3
  exact e ▸ this
theorem ra (F:Fn K mg "_law_small_well" jz ["_law_desk","_law_state"] f fd)(DD:Am P w K mg base kr ka C cs)
  (iq:Fn K mg "_law_said" mB ["_law_desk","_law_row"] f2 fd2) (lg:fm P w K mg base CX0 9 f2 fd2 ["_law_desk","_law_row"] (xw P w K mg base kr ka c7 C cs))
  (iL:Fn K mg "_law_due" kS ["_law_state","_law_word","_law_thing"] f3 fd3) (mi:fm P w K mg base CX0 3 f3 fd3 ["_law_state","_law_word","_law_thing"] (Au K)):
  fm P w K mg base CX0 10 f fd ["_law_desk","_law_state"] (Bd K C):=by
 refine F.F.ok mV (λvs H Q E h=>?_) (λcdv A outer s H vs Q E hr h=>?_)
 ·obtain⟨d,s,S,p,rfl,_⟩:=h;rfl
 ·obtain⟨d,sa,S,p,rfl,hD,hS,dS,kk⟩:=h
  refine⟨_,(fb (jq bH rfl (gg (gB (eW fw (eW fw eX)))) (ft (i:=2) mV.nd rfl (Or.inl rfl))
 (fe (gf (gG zi (fj lg (hr.mono (by decide)) rfl iq.m iq.F.kp iq.b .nil fM (eW (pv 0) (eW (pv 2) eX))) (fj mi (hr.mono (by decide)) rfl iL.m iL.F.kp iL.b .nil fM (eW (pv 1) (eW (pv 2) (eW lH eX)))) (iS _))
 (fe (fz pB)) fD)))
 (fe (fz pB))),?_⟩
  refine⟨by show 2<=sizeLine;decide,λpl npl=>?_⟩
  have s1:=eY (o:=.lst [.str "here",.str "moves"]) npl
  have hpl:=eZ (H:=H) (a:=pl) (o:=.lst [.str "here",.str "moves"])
  generalize upd H pl _=H1 at s1 hpl ⊢
  have np:¬p pl:=qA hS npl
  have ne:=BL hD hS
  refine⟨pl,rfl,⟨_,SqL.of hpl⟩,kW (K:=K) (a:=pl) (xs:=[.str "here",.str "moves"]) (λi σ G=>∃ (x2:Option V),σ = [some (.ref d),some (.ref sa),x2]/\nv d sa H1 G/\Dsk K C p G d S/\Stt K p G sa S)
   ⟨none,rfl,λ_ _ _ _ h=>h,hD.same s1,hS.same s1⟩ (λi σ G _ ⟨_,_,o,_⟩=>SqL.of (o _ _ (λz=>np (by rw[z];exact hD.pd)) (λz=>np (by rw[z];exact hS.pd)) hpl)) ?_ ?_⟩
  ·rintro i y σ G N R Bq kN kR hi ⟨x2,rfl,o,D0,S0⟩
   obtain⟨c,rfl,hc,yl,hth,h2⟩:∃ c:Cm,y = .str c.word/\c.ok/\c.row=c.word/\(∀ G,Thing K G p c .non)/\(jJ S c).2=S:=by
    match i,hi with
    | 0,hi=>cases hi;exact⟨.here,rfl,True.intro,rfl,λ_=>rfl,EM⟩
    | 1,hi=>cases hi;exact⟨.moves,rfl,True.intro,rfl,λ_=>rfl,CQ⟩
   have ri:=DJ (c7:=c7) DD hc D0 dS
   rw[yl]at ri
   refine⟨_,rfl,_,rfl,d,c.word,S,p,jJ S c,rfl,D0,ri,λj hj=>BK hj,λH2 o2 D2=>?_⟩
   have hS2:=S0.oth o2 (bX ne) hD.pd D2.li
   refine⟨_,rfl,_,rfl,sa,c,.non,S,p,rfl,hS2,hth _,dS,hc,λH3 o3 S3=>?_⟩
   have D3:=Dsk.IX D2 o3 ne hS.pd S3.li
   rw[h2]at D3 S3
   refine⟨rfl,_,rfl,fY (λh=>absurd h (by simp)) (λ_=>kN _ _ ⟨_,rfl,nv.trans o (nv.of o2 o3),D3,S3⟩)⟩
  ·rintro σ G ⟨x2,rfl,o,D0,S0⟩
   exact kk G (nv.trans (nv.same s1) o) D0 S0
end
noncomputable def xy (K:PySem.W.Frag):Sp:=λvs H Q _=>∃ (a:Addr) (ns:List Int),vs = [.ref a]/\SqL K H a (ns.map V.int)/\∀ H',Q (.bl true) H'
structure Two (K:PySem.W.Frag)(C:Addr)(p:Addr->Prop)(H:Hp)(d0 d1 s0 s1:Addr)(S0 S1:DS):Prop where
 a:Dsk K C p H d0 S0
 b:Dsk K C p H d1 S1
 c:Stt K p H s0 S0
 e:Stt K p H s1 S1
 o0:DOk S0
 o1:DOk S1
theorem Two.swap {d0 d1 s0 s1:Addr}{S0 S1:DS}(h:Two K C p H d0 d1 s0 s1 S0 S1):Two K C p H d1 d0 s1 s0 S1 S0:=⟨h.b,h.a,h.e,h.c,h.o1,h.o0⟩
theorem Two.same {d0 d1 s0 s1:Addr}{S0 S1:DS}(h:Two K C p H d0 d1 s0 s1 S0 S1)(s:fk H H'):Two K C p H' d0 d1 s0 s1 S0 S1:=⟨h.a.same s,h.b.same s,h.c.same s,h.e.same s,h.o0,h.o1⟩
theorem Two.step {d0 d1 s0 s1:Addr}{S0 S1 S':DS}(h:Two K C p H d0 d1 s0 s1 S0 S1)(nd:d0≠d1)(ns:s0≠s1)(o:nv d0 s0 H H')(D:Dsk K C p H' d0 S')(T:Stt K p H' s0 S')(ok:DOk S'):Two K C p H' d0 d1 s0 s1 S' S1:=by
 have hh:=o.hid h.a.pd h.c.pd
 refine⟨D,?_,T,?_,ok,h.o1⟩
 ·obtain⟨dx,v,u,h1,h2,h3⟩:=h.b.at_
  exact⟨⟨dx,v,u,o _ _ (bX nd) (BL h.b h.c) h1,h2.same hh,h3.same hh⟩,h.b.pd,D.li⟩
 ·obtain⟨v,u,h1,h2,h3⟩:=h.e.at_
  exact⟨⟨v,u,o _ _ (bX (BL h.a h.e)) (bX ns) h1,h2.same hh,h3.same hh⟩,h.e.pd,D.li⟩
theorem made {dx:Addr}{fs:List (Str×V)}(n1:H d=none)(n2:H dx=none):fk H (upd (upd (upd H dx (.own d)) d (.ins C dx [])) d (.ins C dx fs)):=λb o e=>by
 have h1:=fu e n1
 have h2:=fu e n2
 rw[fE h1,fE h1,fE h2];exact e
theorem GZ {a:Addr}{xs:List V}(hp:∀ b,p b->H b=none)(s:fk H H')(h:SqL K H a xs):SqL K (gm p H') a xs:=by
 rcases h with(h |⟨o,h⟩)|h
 ·refine .inl (.inl ?_)
  rw[gL λz=>by rw[hp a z]at h;cases h]
  exact s _ _ h
 ·refine .inl (.inr ⟨o,?_⟩)
  rw[gL λz=>by rw[hp a z]at h;cases h]
  exact s _ _ h
 ·exact .inr h
noncomputable abbrev wL:Stmt:=top 104
theorem nh:fC ["_law_script","_law_desks","_law_states","_law_some","_law_first","_law_number","_law_cell","_law_which","_law_k"] ["_law_script"] (fh wL):=⟨rfl,rfl,rfl,by decide +kernel,rfl,by decide +kernel,by decide +kernel⟩
section
variable {P:Program}{w:World}{K:PySem.W.Frag}{mg:Str->Option Value}{base:Heap}{f:Addr}{fd:FuncData}{C fi fs:Addr}
set_option maxHeartbeats 16000000 in
theorem Hj {fdi:FuncData}(F:Fn K mg "law" wL ["_law_script"] f fd)(B:Bm mg)(DK:DkK K mg C fi fs)
  (lF:Fm K "__init__" "Desk.__init__" iz ["self"] fi fdi)
  (hX:Fn K mg "_law_line" oh ["_law_script","_law_start","_law_most","_law_upto"] f1 fd1) (mM:fm P w K mg base CX0 3 f1 fd1 ["_law_script","_law_start","_law_most","_law_upto"] (Bf K))
  (fV:Fn K mg "_law_mix" me ["_law_cell","_law_k"] f2 fd2) (fZ:Fn K mg "_law_cell_at" jL ["_law_script","_law_k"] f3 fd3)
  (iW:Fn K mg "_law_told" og ["_law_desk","_law_state","_law_number","_law_line_here"] f4 fd4) (oJ:fm P w K mg base CX0 10 f4 fd4 ["_law_desk","_law_state","_law_number","_law_line_here"] (Be K C))
  (ie:Fn K mg "_law_small_well" jz ["_law_desk","_law_state"] f5 fd5) (kZ:fm P w K mg base CX0 10 f5 fd5 ["_law_desk","_law_state"] (Bd K C)):
  fm P w K mg base CX0 11 f fd ["_law_script"] (xy K):=by
 have ke:fm P w K mg base CX0 1 f2 fd2 ["_law_cell","_law_k"] xx:=qz fV B.toBl
 have lx:fm P w K mg base CX0 1 f3 fd3 ["_law_script","_law_k"] (xB K):=pD fZ B.toBl
 have tO:fm P w K mg base CX0 1 fi fdi ["self"] (Bi C):=ya lF DK
 refine F.F.ok nh (λvs H Q E h=>?_) (λcdv A outer s H vs Q E hr h=>?_)
 ·obtain⟨a,ns,rfl,_⟩:=h;rfl
 ·obtain⟨a,ns,rfl,hS,k⟩:=h
  refine⟨_,(fb (fQ (i:=1) nh.nd rfl (Or.inl rfl) (gB (eW (zd DK.mkr tO (hr.mono (by decide)) rfl DK.m lF.b .nil fM) (eW (zd DK.mkr tO (hr.mono (by decide)) rfl DK.m lF.b .nil fM) eX))))
 (fb (fQ (i:=2) nh.nd rfl (Or.inl rfl) (gB (eW (gB (eW lH (eW lH eX))) (eW (gB (eW lH (eW lH eX))) eX))))
 (fb (fQ (i:=3) nh.nd rfl (Or.inl rfl) (gB (eW (fj mM (hr.mono (by decide)) rfl hX.m hX.F.kp hX.b .nil fM (eW (pv 0) (eW fc (eW fc (eW fc eX))))) (eW (fj mM (hr.mono (by decide)) rfl hX.m hX.F.kp hX.b .nil fM (eW (pv 0) (eW fc (eW fc (eW fc eX))))) (eW (fj mM (hr.mono (by decide)) rfl hX.m hX.F.kp hX.b .nil fM (eW (pv 0) (eW fc (eW fc (eW fc eX))))) eX)))))
 (fb (fQ (i:=4) nh.nd rfl (Or.inl rfl) (fj ke (hr.mono (by decide)) rfl fV.m fV.F.kp fV.b .nil fM (eW (fj lx (hr.mono (by decide)) rfl fZ.m fZ.F.kp fZ.b .nil fM (eW (pv 0) (eW fc eX))) (eW fc eX))))
 (fb (gf (gw (wO (fo gM (pv 4) fc) fc))
 (fe (jq bH rfl (gg (gB (eW fc (eW (fo jd fc (fo jt fc (pv 4))) eX)))) (ft (i:=5) nh.nd rfl (Or.inl rfl))
 (fe (gf (kT (ni (fj oJ (hr.mono (by decide)) rfl iW.m iW.F.kp iW.b .nil fM (eW (gr gh (pv 1) fc (λ_ _=>rfl)) (eW (gr gh (pv 2) fc (λ_ _=>rfl)) (eW (pv 5) (eW (gr gh (pv 3) fc (λ_ _=>rfl)) eX)))))))
 (fe (fz pB)) fD)))) fD)
 (fb (jq bH rfl (gg (fo oo (gB (eW fc (eW fc eX))) (kD mS (pv 0) lX (lr fc)))) (ft (i:=6) nh.nd rfl (Or.inl rfl))
 (fb (fQ (i:=5) nh.nd rfl (Or.inl rfl) (fj ke (hr.mono (by decide)) rfl fV.m fV.F.kp fV.b .nil fM (eW (pv 6) (eW fc eX))))
 (fb (fQ (i:=7) nh.nd rfl (Or.inl rfl) (fo gH (fo gM (pv 5) fc) fc))
 (fb (gf (kT (ni (fj oJ (hr.mono (by decide)) rfl iW.m iW.F.kp iW.b .nil fM (eW (gr gh (pv 1) (pv 7) (λ_ _=>rfl)) (eW (gr gh (pv 2) (pv 7) (λ_ _=>rfl)) (eW (fj ke (hr.mono (by decide)) rfl fV.m fV.F.kp fV.b .nil fM (eW (pv 6) (eW fc eX))) (eW (gr gh (pv 3) (fo gM (fo gH (pv 5) fc) fc) (λ_ _=>rfl)) eX)))))))
 (fe (fz pB)) fD)
 (fe (jq bH rfl (p6 rfl B.range (eW fc eX)) (ft (i:=8) nh.nd rfl (Or.inl rfl))
 (fe (gf (kT (ni (fj kZ (hr.mono (by decide)) rfl ie.m ie.F.kp ie.b .nil fM (eW (gr gh (pv 1) (pv 8) (λ_ _=>rfl)) (eW (gr gh (pv 2) (pv 8) (λ_ _=>rfl)) eX)))))
 (fe (fz pB)) fD))))))))
 (fe (fz pB)))))))),?_⟩
  refine λd0 dx0 nd0 Jd ne0=>⟨d0,dx0,rfl,eZ,rfl,?_⟩
  have s1:fk H _:=made (C:=C) (fs:=[(Str.ofString "line",V.non),(Str.ofString "train",V.non)]) nd0 Jd
  have h0:=eZ (H:=upd (upd H dx0 (.own d0)) d0 (.ins C dx0 [])) (a:=d0) (o:=.ins C dx0 [(Str.ofString "line",V.non),(Str.ofString "train",V.non)])
  generalize upd (upd (upd H dx0 _) d0 _) d0 _=H1 at s1 h0 ⊢
  refine λd1 dx1 nd1 Jc ne1=>⟨d1,dx1,rfl,eZ,rfl,?_⟩
  have s2:fk H1 _:=made (C:=C) (fs:=[(Str.ofString "line",V.non),(Str.ofString "train",V.non)]) nd1 Jc
  have h1:=eZ (H:=upd (upd H1 dx1 (.own d1)) d1 (.ins C dx1 [])) (a:=d1) (o:=.ins C dx1 [(Str.ofString "line",V.non),(Str.ofString "train",V.non)])
  generalize upd (upd (upd H1 dx1 _) d1 _) d1 _=H2 at s2 h1 ⊢
  have nd:d0≠d1:=fu h0 nd1
  refine⟨by show 2<=sizeLine;decide,λpd npd=>?_⟩
  have s3:=eY (o:=.lst [.ref d0,.ref d1]) npd
  have hpd:=eZ (H:=H2) (a:=pd) (o:=.lst [.ref d0,.ref d1])
  generalize upd H2 pd _=H3 at s3 hpd ⊢
  refine⟨by show 2<=sizeLine;decide,λs0 ns0=>?_⟩
  have s4:=eY (o:=.lst [V.non,V.non]) ns0
  have g0:=eZ (H:=H3) (a:=s0) (o:=.lst [V.non,V.non])
  generalize upd H3 s0 _=H4 at s4 g0 ⊢
  refine⟨by show 2<=sizeLine;decide,λs1' ns1=>?_⟩
  have s5:=eY (o:=.lst [V.non,V.non]) ns1
  have g1:=eZ (H:=H4) (a:=s1') (o:=.lst [V.non,V.non])
  generalize upd H4 s1' _=H5 at s5 g1 ⊢
  have nss:s0≠s1':=fu g0 ns1
  refine⟨by show 2<=sizeLine;decide,λps nps=>?_⟩
  have s6:=eY (o:=.lst [.ref s0,.ref s1']) nps
  have hps:=eZ (H:=H5) (a:=ps) (o:=.lst [.ref s0,.ref s1'])
  generalize upd H5 ps _=H6 at s6 hps ⊢
  obtain⟨p,hp⟩:∃ p:Addr->Prop,p = λb=>b=d0\/b=d1\/b=s0\/b=s1':=⟨_,rfl⟩
  have S6:=s1.trans (s2.trans (s3.trans (s4.trans (s5.trans s6))))
  have hpn:∀ b,p b->H b=none:=λb hb=>by
   rw[hp]at hb
   rcases hb with rfl |rfl |rfl |rfl
   ·exact nd0
   ·exact fk.free s1 nd1
   ·exact fk.free (s1.trans (s2.trans s3)) ns0
   ·exact fk.free (s1.trans (s2.trans (s3.trans s4))) ns1
  have li:∀ b,p b->LI (H6 b):=λb hb=>by
   rw[hp]at hb
   rcases hb with rfl |rfl |rfl |rfl
   ·exact .inl ⟨_,_,_,(s2.trans (s3.trans (s4.trans (s5.trans s6)))) _ _ h0⟩
   ·exact .inl ⟨_,_,_,(s3.trans (s4.trans (s5.trans s6))) _ _ h1⟩
   ·exact .inr ⟨_,(s5.trans s6) _ _ g0⟩
   ·exact .inr ⟨_,s6 _ _ g1⟩
  have T6:Two K C p H6 d0 d1 s0 s1' (none,none) (none,none):=
   ⟨⟨⟨_,_,_,(s2.trans (s3.trans (s4.trans (s5.trans s6)))) _ _ h0,rfl,rfl⟩,by rw[hp];exact .inl rfl,li⟩,⟨⟨_,_,_,(s3.trans (s4.trans (s5.trans s6))) _ _ h1,rfl,rfl⟩,by rw[hp];exact .inr (.inl rfl),li⟩,
    ⟨⟨_,_,(s5.trans s6) _ _ g0,rfl,rfl⟩,by rw[hp];exact .inr (.inr (.inl rfl)),li⟩,⟨⟨_,_,s6 _ _ g1,rfl,rfl⟩,by rw[hp];exact .inr (.inr (.inr rfl)),li⟩,
    ⟨λl h=>(by cases h),λt h=>(by cases h)⟩,⟨λl h=>(by cases h),λt h=>(by cases h)⟩⟩
  have npd:¬p pd:=λz=>by
   rw[hp]at z
   rcases z with z |z |z |z
   ·exact fu ((s2) _ _ h0) npd z.symm
   ·exact fu h1 npd z.symm
   ·exact fu hpd ns0 z
   ·exact fu (s4 _ _ hpd) ns1 z
  have nps:¬p ps:=λz=>by
   rw[hp]at z
   rcases z with z |z |z |z
   ·exact fu ((s2.trans (s3.trans (s4.trans s5))) _ _ h0) nps z.symm
   ·exact fu ((s3.trans (s4.trans s5)) _ _ h1) nps z.symm
   ·exact fu (s5 _ _ g0) nps z.symm
   ·exact fu g1 nps z.symm
  have Jr:=(s4.trans (s5.trans s6)) _ _ hpd
  clear h0 h1 g0 g1 s1 s2 s3 s4 s5 s6 hpd nd0 nd1 ns0 ns1 Jd Jc ne0 ne1
  refine⟨_,rfl,a,ns,40,14,24,rfl,S6.seq hS,by decide,by decide,by decide,by decide,by decide,λp0 t0 us0 l0 H7 s7 np0 nt0 hp0 ht0 P0 il0 _ _=>?_⟩
  refine⟨_,rfl,a,ns,46,14,24,rfl,(S6.trans s7).seq hS,by decide,by decide,by decide,by decide,by decide,λp1 t1 us1 l1 H8 s8 np1 nt1 hp1 ht1 P1 il1 _ _=>?_⟩
  refine⟨_,rfl,a,ns,52,40,80,rfl,(S6.trans (s7.trans s8)).seq hS,by decide,by decide,by decide,by decide,by decide,λp2 t2 us2 l2 H9 s9 np2 nt2 hp2 ht2 P2 il2 _ _=>?_⟩
  refine⟨by show 3<=sizeLine;decide,λpm npm=>?_⟩
  have s10:=s7.trans (s8.trans (s9.trans (eY (o:=.lst [.ref p0,.ref p1,.ref p2]) npm)))
  have hpm:=eZ (H:=H9) (a:=pm) (o:=.lst [.ref p0,.ref p1,.ref p2])
  have u10:=eY (o:=.lst [.ref p0,.ref p1,.ref p2]) npm
  generalize upd H9 pm _=H10 at s10 hpm u10 ⊢
  have T10:=T6.same s10
  have FH:=T10.a.li
  have fr:∀ {q:Addr}{G:Hp},fk H6 G->G q=none->¬p q:=λsG nq z=>by
   rcases LI.same sG li _ z with⟨_,_,_,e⟩|⟨_,e⟩<;>rw[nq]at e<;>cases e
  have L0:Da K (gm p H10) (dL l0) (.ref p0):=rh FH ((s8.trans (s9.trans u10)) _ _ hp0) ((s8.trans (s9.trans u10)) _ _ ht0) (P0.same (s8.trans (s9.trans u10))) (fr (fk.refl _) nt0)
  have L1:Da K (gm p H10) (dL l1) (.ref p1):=rh FH ((s9.trans u10) _ _ hp1) ((s9.trans u10) _ _ ht1) (P1.same (s9.trans u10)) (fr s7 nt1)
  have LA2:Da K (gm p H10) (dL l2) (.ref p2):=rh FH (u10 _ _ hp2) (u10 _ _ ht2) (P2.same u10) (fr (s7.trans s8) nt2)
  have Jp:gm p H10 pm=some (.lst [.ref p0,.ref p1,.ref p2]):=by rw[gL (fr (s7.trans (s8.trans s9)) npm)];exact hpm
  have FT:gm p H10 pd=some (.lst [.ref d0,.ref d1]):=by rw[gL npd];exact s10 _ _ Jr
  have FP:gm p H10 ps=some (.lst [.ref s0,.ref s1']):=by rw[gL nps];exact s10 _ _ hps
  have hS':SqL K (gm p H10) a (ns.map V.int):=GZ hpn (S6.trans s10) hS
  clear s7 s8 s9 s10 u10 hp0 hp1 hp2 ht0 ht1 ht2 P0 P1 P2 hpm hps Jr li FH T6 S6 hS fr np0 np1 np2 nt0 nt1 nt2 npm hpn
  have pick:∀ (G:Hp) (j:Int),fk (gm p H10) (gm p G)->0<=j->j<3->∃ (x:V) (l:Ln),atI [V.ref p0,.ref p1,.ref p2] j=some x/\Da K (gm p G) (dL l) x/\fW l:=λG j sG j0 j3=>by
   have c:j=0\/j=1\/j=2:=by omega
   rcases c with e |e |e
   ·rw[e];exact⟨_,l0,rfl,Da.same sG L0,il0⟩
   ·rw[e];exact⟨_,l1,rfl,Da.same sG L1,il1⟩
   ·rw[e];exact⟨_,l2,rfl,Da.same sG LA2,il2⟩
  refine⟨_,rfl,a,ns,39,rfl,(fN (p:=p)).seq hS',by decide,λc39=>⟨c39,0,rfl,by decide,by decide,λfi0 f0 f1=>?_⟩⟩
  dsimp only[pG]
  refine t7 (λσ G=>∃ (x5:Option V) (S0 S1:DS),σ = [some (.ref a),some (.ref pd),some (.ref ps),some (.ref pm),some (.int fi0),x5,none,none,none]/\Two K C p G d0 d1 s0 s1' S0 S1/\fk (gm p H10) (gm p G)) (λnx kn=>?_) ?_
  ·refine⟨_,rfl,_,_,rfl,rfl,(by show(0:Int)<4;decide),_,_,rfl,rfl,_,rfl,fY (λ_=>?_) (λ_=>kn _ _ ⟨none,_,_,rfl,T10,fk.refl _⟩)⟩
   refine⟨_,rfl,_,_,rfl,rfl,.inl ⟨by decide,by decide⟩,_,_,rfl,rfl,by show 2<=sizeLine;decide,λpl npl=>?_⟩
   have u:=eY (o:=.lst [.int 0,.int (1+10*fi0)]) npl
   have npp:¬p pl:=λz=>by
    rcases T10.a.li _ z with⟨_,_,_,e⟩|⟨_,e⟩<;>rw[npl]at e<;>cases e
   have hpl:gm p (upd H10 pl (.lst [.int 0,.int (1+10*fi0)])) pl=some (.lst [.int 0,.int (1+10*fi0)]):=by rw[gL npp,eZ]
   have T11:=T10.same u
   have s11:=hG (p:=p) u
   generalize upd H10 pl _=H11 at hpl T11 s11 ⊢
   refine⟨pl,rfl,⟨_,SqL.of (fN _ _ hpl)⟩,kW (K:=K) (a:=pl) (xs:=[.int 0,.int (1+10*fi0)]) (λi σ G=>∃ (x5:Option V) (S0 S1:DS),σ = [some (.ref a),some (.ref pd),some (.ref ps),some (.ref pm),some (.int fi0),x5,none,none,none]/\Two K C p G d0 d1 s0 s1' S0 S1/\fk (gm p H11) (gm p G))
    ⟨none,_,_,rfl,T11,fk.refl _⟩ (λi σ G _ ⟨_,_,_,_,_,s⟩=>SqL.of ((fk.trans s fN) _ _ hpl)) ?_ ?_⟩
   ·rintro i y σ G N R Bq kN kR hi ⟨x5,S0,S1,rfl,TG,sG⟩
    obtain⟨n,rfl,n0⟩:∃ n:Int,y = .int n/\0<=n:=by
     match i,hi with
     | 0,hi=>cases hi;exact⟨0,rfl,by decide⟩
     | 1,hi=>cases hi;exact⟨_,rfl,by omega⟩
    have S:=s11.trans sG
    have SG:=S.trans fN
    refine⟨_,rfl,pd,_,_,_,rfl,rfl,SqL.of (SG _ _ FT),rfl,_,rfl,ps,_,_,_,rfl,rfl,SqL.of (SG _ _ FP),rfl,_,rfl,_,rfl,pm,_,_,_,rfl,rfl,SqL.of (SG _ _ Jp),rfl,?_⟩
    refine⟨d0,s0,n,_,S0,p,l0,rfl,TG.a,TG.c,TG.o0,n0,Da.same S L0,il0,λS' G' oS o D T=>⟨_,rfl,rk (kN _ _ ⟨_,S',S1,rfl,TG.step nd nss o D T oS,sG.trans (o.hid TG.a.pd TG.c.pd)⟩)⟩⟩
   ·rintro σ G ⟨x5,S0,S1,rfl,TG,sG⟩
    exact kn _ _ ⟨x5,S0,S1,rfl,TG,s11.trans sG⟩
  rintro σ G ⟨x5,S0,S1,rfl,TG,sG⟩
  refine⟨by show 2<=sizeLine;decide,λpl npl=>?_⟩
  have u1:=eY (o:=.lst [.int 0,.int 5]) npl
  have SS:=sG.trans fN
  refine⟨_,rfl,36,rfl,a,_,rfl,(SS.trans u1).seq hS',λpq npq=>?_⟩
  rw[EX _ (by decide)]
  have u2:=u1.trans (eY (o:=.lst ((ns.map V.int).take (36:Int).toNat)) npq)
  refine⟨pl,pq,_,_,rfl,rfl,(eY (o:=.lst ((ns.map V.int).take (36:Int).toNat)) npq) _ _ eZ,eZ,?_,λpc npc=>?_⟩
  ·refine bZ (jf ?_)
   have:((ns.map V.int).take (36:Int).toNat).length<=36:=by rw[aN];exact Nat.min_le_left _ _
   show 2+((ns.map V.int).take (36:Int).toNat).length<=1000
   omega
  have e1:([V.int 0,V.int 5]++(ns.map V.int).take (36:Int).toNat)=([0,5]++ns.take 36).map V.int:=by rw[aX,dX];rfl
  rw[e1]
  generalize [0,5]++ns.take 36=ms
  have u3:=u2.trans (eY (o:=.lst (ms.map V.int)) npc)
  have npp:¬p pc:=λz=>by
   rcases LI.same u2 TG.a.li _ z with⟨_,_,_,e⟩|⟨_,e⟩<;>rw[npc]at e<;>cases e
  have hpc:gm p (upd (upd (upd G pl (.lst [.int 0,.int 5])) pq (.lst ((ns.map V.int).take (36:Int).toNat))) pc (.lst (ms.map V.int))) pc=some (.lst (ms.map V.int)):=by rw[gL npp,eZ]
  have T12:=TG.same u3
  have s12:=sG.trans (hG (p:=p) u3)
  generalize upd (upd (upd G pl _) pq _) pc _=H12 at hpc T12 s12 ⊢
  refine⟨pc,rfl,⟨_,SqL.of (fN _ _ hpc)⟩,kW (K:=K) (a:=pc) (xs:=ms.map V.int) (λi σ G=>∃ (x5 x6 x7 x8:Option V) (S0 S1:DS),σ = [some (.ref a),some (.ref pd),some (.ref ps),some (.ref pm),some (.int fi0),x5,x6,x7,x8]/\Two K C p G d0 d1 s0 s1' S0 S1/\fk (gm p H12) (gm p G))
   ⟨x5,none,none,none,_,_,rfl,T12,fk.refl _⟩ (λi σ G _ ⟨_,_,_,_,_,_,_,_,s⟩=>SqL.of ((fk.trans s fN) _ _ hpc)) ?_ ?_⟩
  ·rintro i y σ G2 N R Bq kN kR hi ⟨y5,y6,y7,y8,R0,R1,rfl,TG2,sG2⟩
   rw[aq]at hi
   obtain⟨c,hc,rfl⟩:=cx.mp hi
   refine⟨_,rfl,c,0,rfl,by decide,by decide,λn n0 n1=>?_⟩
   refine⟨_,rfl,_,_,rfl,rfl,(by show(0:Int)<3;decide),_,_,rfl,rfl,⟨by decide,by decide⟩,?_⟩
   have S:=s12.trans sG2
   have SG:=S.trans fN
   obtain⟨dW,dO,sW,sO,SW,SO,at1,at2,TW,ndW,nsW,back⟩:∃ (dW dO sW sO:Addr) (SW SO:DS),atI [V.ref d0,.ref d1] (n%3/2)=some (.ref dW)/\atI [V.ref s0,.ref s1'] (n%3/2)=some (.ref sW)/\Two K C p G2 dW dO sW sO SW SO/\dW≠dO/\sW≠sO/\
     ∀ G' S',Two K C p G' dW dO sW sO S' SO->∃ Q0 Q1,Two K C p G' d0 d1 s0 s1' Q0 Q1:=by
    have cc:n%3/2=0\/n%3/2=1:=by omega
    rcases cc with e |e
    ·rw[e];exact⟨d0,d1,s0,s1',_,_,rfl,rfl,TG2,nd,nss,λG' S' h=>⟨_,_,h⟩⟩
    ·rw[e];exact⟨d1,d0,s1',s0,_,_,rfl,rfl,TG2.swap,bX nd,bX nss,λG' S' h=>⟨_,_,h.swap⟩⟩
   refine⟨_,rfl,_,rfl,pd,_,_,.ref dW,rfl,rfl,SqL.of (SG _ _ FT),at1,_,rfl,_,rfl,ps,_,_,.ref sW,rfl,rfl,SqL.of (SG _ _ FP),at2,_,rfl,c,1,rfl,by decide,by decide,λn2 n20 n21=>?_⟩
   obtain⟨x,l,atx,hx,il⟩:=pick G2 (n/3%3) S (by omega) (by omega)
   refine⟨_,rfl,_,rfl,_,_,rfl,rfl,⟨by decide,by decide⟩,_,_,rfl,rfl,(by show(0:Int)<3;decide),pm,_,_,x,rfl,rfl,SqL.of (SG _ _ Jp),atx,?_⟩
   refine⟨dW,sW,n2,x,SW,p,l,rfl,TW.a,TW.c,TW.o0,n20,hx,il,λS' G3 oS o D T=>⟨_,rfl,rk ?_⟩⟩
   have TW3:=TW.step ndW nsW o D T oS
   obtain⟨Q0,Q1,T3⟩:=back G3 S' TW3
   have sG3:=sG2.trans (o.hid TW.a.pd TW.c.pd)
   refine⟨2,rfl,by decide,by decide,vC (λj σ G=>∃ (x8:Option V) (S0 S1:DS),σ = [some (.ref a),some (.ref pd),some (.ref ps),some (.ref pm),some (.int fi0),some (.int n),some (.int c),some (.int (n%3/2)),x8]/\Two K C p G d0 d1 s0 s1' S0 S1/\fk (gm p H12) (gm p G)) ⟨y8,Q0,Q1,rfl,T3,sG3⟩ ?_ ?_⟩
   ·rintro j σ G4 N2 R2 B2 kN2 kR2 hj ⟨z8,V0,V1,rfl,T4,sG4⟩
    have SG4:=(s12.trans sG4).trans fN
    have hj:j<2:=hj
    have cc:j=0\/j=1:=by omega
    rcases cc with rfl |rfl
    ·refine⟨_,rfl,_,rfl,pd,_,_,.ref d0,rfl,rfl,SqL.of (SG4 _ _ FT),rfl,_,rfl,_,rfl,ps,_,_,.ref s0,rfl,rfl,SqL.of (SG4 _ _ FP),rfl,?_⟩
     exact⟨d0,s0,V0,p,rfl,T4.a,T4.c,T4.o0,λG5 o D T=>⟨_,rfl,rk (kN2 _ _ ⟨_,V0,V1,rfl,T4.step nd nss o D T T4.o0,sG4.trans (o.hid T4.a.pd T4.c.pd)⟩)⟩⟩
    ·refine⟨_,rfl,_,rfl,pd,_,_,.ref d1,rfl,rfl,SqL.of (SG4 _ _ FT),rfl,_,rfl,_,rfl,ps,_,_,.ref s1',rfl,rfl,SqL.of (SG4 _ _ FP),rfl,?_⟩
     exact⟨d1,s1',V1,p,rfl,T4.b,T4.e,T4.o1,λG5 o D T=>⟨_,rfl,rk (kN2 _ _ ⟨_,V0,V1,rfl,(T4.swap.step (bX nd) (bX nss) o D T T4.o1).swap,sG4.trans (o.hid T4.b.pd T4.e.pd)⟩)⟩⟩
   ·rintro σ G4 ⟨z8,V0,V1,rfl,T4,sG4⟩
    exact kN _ _ ⟨_,_,_,_,V0,V1,rfl,T4,sG4⟩
  ·rintro σ G2 ⟨_,_,_,_,_,_,rfl,_,_⟩
   exact k _
end
theorem rj {k:Str}{f:Addr}{r:List (Str×Addr)}(h:k≠x):ma ((k,f)::r) x=ma r x:=by
 unfold ma;rw[List.find?_cons_of_neg (by simpa using h)]
theorem vd {f:Addr}{r:List (Str×Addr)} :ma ((x,f)::r) x=some f:=by
 unfold ma;rw[List.find?_cons_of_pos (by simp)];rfl
variable {mg:Str->Option Value}
theorem EO {P:Program}{w:World}{base:Heap}{cs:List Addr}{a1 a2 a3 a4 b1 b2 b3:Addr}(r r':List (Str×Addr))
  (h1:FV P w K mg base a1 (lz K C cs 2100 qr)) (h2:FV P w K mg base a2 (lz K C cs 800 kG)) (h3:FV P w K mg base a3 (lz K C cs 800 (dGo (Str.ofString "on")))) (h4:FV P w K mg base a4 (lz K C cs 800 (dGo (Str.ofString "back"))))
  (h5:FV P w K mg base b1 (nG K C cs sE)) (h6:FV P w K mg base b3 (nG K C cs xg)) (h7:FV P w K mg base b2 (nG K C cs sF)):
  Am P w K mg base ((Str.ofString "line",a1)::(Str.ofString "train",a2)::(Str.ofString "on",a3)::(Str.ofString "back",a4)::r) ((Str.ofString "round",b1)::(Str.ofString "moves",b2)::(Str.ofString "here",b3)::r') C cs:=by
 refine⟨⟨a1,vd,h1⟩,⟨a2,?_,h2⟩,⟨a3,?_,h3⟩,⟨a4,?_,h4⟩,⟨b1,vd,h5⟩,⟨b3,?_,h6⟩,⟨b2,?_,h7⟩⟩
 ·rw[rj (by decide +kernel),vd]
 ·rw[rj (by decide +kernel),rj (by decide +kernel),vd]
 ·rw[rj (by decide +kernel),rj (by decide +kernel),rj (by decide +kernel),vd]
 ·rw[rj (by decide +kernel),rj (by decide +kernel),vd]
 ·rw[rj (by decide +kernel),vd]
structure En (K:PySem.W.Frag)(x:Str)(st:Stmt)(f:Addr)(oc:Value)(od:Option Addr)(osl:Array (Option Value))(kV doc pm:Value)(an:Option Addr)(cdv ct:Value):Prop where
 a:PySem.W.nsIn K mainGlobals x=some (some (.ref f))
 l:K.lookup f=some ⟨oc,od,.func (PySem.W.fnOf x x (lu st) (jR st) (fh st) .none kV doc pm an cdv ct),osl⟩
 c:PySem.W.codeIn K cdv x=true
 k:PySem.W.keepIn K (.ref f)=true
theorem gk {h:Heap}{st:Stmt}{ps:List Str}{f:Addr}{oc:Value}{od an:Option Addr}{osl:Array (Option Value)}{kV doc pm cdv ct:Value}(X:K.In h)(G:h.Ns mainGlobals mg)(e:En K x st f oc od osl kV doc pm an cdv ct)
  (hb:∀ (kV doc pm:Value) (an:Option Addr) (cdv ct:Value) (us:List Value),us.length=ps.length->bindArgs (PySem.W.fnOf x x (lu st) (jR st) (fh st) .none kV doc pm an cdv ct) ⟨us,[]⟩=pure (ps.zip us)):
  Fn K mg x st ps f (PySem.W.fnOf x x (lu st) (jR st) (fh st) .none kV doc pm an cdv ct):=⟨su (st:=st) e.l e.c e.k,cD X G e.a,(su (st:=st) e.l e.c e.k).binds (ps:=ps) hb⟩
variable {F:FuncData}
theorem bn1 {p:List Str}(k:∀ a0,bindArgs F ⟨[a0],[]⟩=pure (p.zip [a0]))(us:List Value)(h:us.length=1):bindArgs F ⟨us,[]⟩=pure (p.zip us):=match us,h with |[a0],_=>k a0
theorem bn2 {p:List Str}(k:∀ a0 a1,bindArgs F ⟨[a0,a1],[]⟩=pure (p.zip [a0,a1]))(us:List Value)(h:us.length=2):bindArgs F ⟨us,[]⟩=pure (p.zip us):=match us,h with |[a0,a1],_=>k a0 a1
theorem bn3 {p:List Str}(k:∀ a0 a1 a2,bindArgs F ⟨[a0,a1,a2],[]⟩=pure (p.zip [a0,a1,a2]))(us:List Value)(h:us.length=3):bindArgs F ⟨us,[]⟩=pure (p.zip us):=match us,h with |[a0,a1,a2],_=>k a0 a1 a2
theorem bn4 {p:List Str}(k:∀ a0 a1 a2 a3,bindArgs F ⟨[a0,a1,a2,a3],[]⟩=pure (p.zip [a0,a1,a2,a3]))(us:List Value)(h:us.length=4):bindArgs F ⟨us,[]⟩=pure (p.zip us):=match us,h with |[a0,a1,a2,a3],_=>k a0 a1 a2 a3
theorem all_mk {l:PySem.W.OpenLaw}{w:World}{h:Heap}{fa f6 f7 f8 f9 f10 f11 f12 f13 f14 f15 f16 f17 f18 f19 f20 f21 f22 f23 f24 f25 f26 f27 f28 f29 f30 f31 f32 f33 f34 f35 f36 f37 f38 f39 f40 f41 f42 f43 f44 f45 f46 f47 f48 f49 f50:Addr}(X:K.In h)(G:h.Ns mainGlobals mg)(hfa:mg "law" = some (.ref fa))
  {od1 an1 od2 an2 od3 an3 od4 an4 od5 an5 od6 an6 od7 an7 od8 an8 od9 an9 ME R9 MD R8 MC R7 MB R6 MA R5 Mz RZ My RY Mx RX Mw RW Mu RV Mt RU Ms RT Mr RS Mq RQ Mp RP Mo RO Mn RN Mm RM Mj RL Mi RK Mh RJ Mg RI Mf RH Me RG Md RF Mc RE Mb RD L9 RC L8 RB L7 RA L6 Rz L5 Ry L4 Rx LZ Rw LY Rv LX Ru LW Rt LV Rr LU Rq LS Rp LR JM:Option Addr}{sl1 sl2 sl3 sl4 sl5 sl6 sl7 sl8 sl9 KU KS KR KQ KP KO KN KL KJ KI KH KG KD KC KA Kz Ky Kx Kw Kv Ku Kt Ks Kr Kq Kp Ko Kn Km Kl Kk Kj Ki Kh Kg Kf Ke Kd Kc Kb J9:Array (Option Value)}{oc1 kV1 dc1 pm1 cd1 ct1 oc2 kV2 dc2 pm2 cd2 ct2 oc3 kV3 dc3 pm3 cd3 ct3 oc4 kV4 dc4 pm4 cd4 ct4 oc5 kV5 dc5 pm5 cd5 ct5 oc6 kV6 dc6 pm6 cd6 ct6 oc7 kV7 dc7 pm7 cd7 ct7 oc8 kV8 dc8 pm8 cd8 ct8 oc9 kV9 dc9 pm9 cd9 ct9 Np OA PK LP Rn QE Nn Oz PJ LO Rm QD Nm Oy PH LN Rl QC Nl Ox PD LM Rk QB Nk Ow PB LL Rj QA Nj Ov Pz LK Ri Qz Ni Ou Py LJ Rh Qy Nh Ot Px LH Rg Qx Ng Oq Pw LG Rf Qw Nf Oo Pu LF Rc Qv Nd Om Pt LD Rb Qu Nc Ol Pr LC Ra Qt Nb Oj Pq LB Q9 Qs Na Oi Pp Lz Q8 Qr M9 Oh Po Ly Q7 Qq M8 Og Pn Lx Q6 Qp M7 Of Pm Lw Q5 Qo M6 Oe Pl Lv Q4 Qn M5 Od Pk Lu Q3 Qm M4 Oc Pj Ls QZ Ql M3 Ob Ph Lr QY Qk M0 Oa Pg Lq QX Qj MZ N9 Pf Lp QW Qi MY N8 Pe Lo QV Qh MX N7 Pc Lm QU Qg MW N6 Pb Ll QT Qf MV N5 Pa Lk QS Qe MU N4 O9 Lj QR Qd MT N3 O8 Li QQ Qc MS N1 O7 Lh QP Qb MR N0 O6 Lg QO Qa MQ NZ O5 Le QN PZ MP NY O4 Ld QM PY MO NW O3 Lc QL PX MN NV O2 Lb QK PV MM NU O1 La QJ PU MK NT O0 K9 QI PR MJ NS OZ K8 QH PQ MI NR OY K7 QG PM MG NQ OX K6 QF PL MF Jk JG IV JJ JH:Value}
  (e1:En K "other_end" jZ f1 oc1 od1 sl1 kV1 dc1 pm1 an1 cd1 ct1)
  (e2:En K "piece_of" jU f2 oc2 od2 sl2 kV2 dc2 pm2 an2 cd2 ct2)
  (e3:En K "is_end" nI f3 oc3 od3 sl3 kV3 dc3 pm3 an3 cd3 ct3)
  (e4:En K "check_line" lW f4 oc4 od4 sl4 kV4 dc4 pm4 an4 cd4 ct4)
  (e5:En K "check_joint" lq f5 oc5 od5 sl5 kV5 dc5 pm5 an5 cd5 ct5)
  (e6:En K "joined" mC f6 oc6 od6 sl6 kV6 dc6 pm6 an6 cd6 ct6)
  (e7:En K "check_train" jM f7 oc7 od7 sl7 kV7 dc7 pm7 an7 cd7 ct7)
  (e8:En K "turned" pb f8 oc8 od8 sl8 kV8 dc8 pm8 an8 cd8 ct8)
  (e9:En K "free_ends" j9 f9 oc9 od9 sl9 kV9 dc9 pm9 an9 cd9 ct9)
  (e10:En K "moves_of" mz f10 Np ME KU OA PK LP R9 Rn QE)
  (e11:En K "done" uy f11 Nn MD KS Oz PJ LO R8 Rm QD)
  (e12:En K "show_end" mw f12 Nm MC KR Oy PH LN R7 Rl QC)
  (e13:En K "show_train" jy f13 Nl MB KQ Ox PD LM R6 Rk QB)
  (e14:En K "show_run" mr f14 Nk MA KP Ow PB LL R5 Rj QA)
  (e15:En K "read_number" i7 f15 Nj Mz KO Ov Pz LK RZ Ri Qz)
  (e16:En K "read_end" jT f16 Ni My KN Ou Py LJ RY Rh Qy)
  (e17:En K "words_behind" jj f17 Nh Mx KL Ot Px LH RX Rg Qx)
  (e18:En K "read_joint" lV f18 Ng Mw KJ Oq Pw LG RW Rf Qw)
  (e19:En K "read_line" lA f19 Nf Mu KI Oo Pu LF RV Rc Qv)
  (e20:En K "read_train" kz f20 Nd Mt KH Om Pt LD RU Rb Qu)
  (e21:En K "kept_line" iM f21 Nc Ms KG Ol Pr LC RT Ra Qt)
  (e22:En K "kept_train" iy f22 Nb Mr KD Oj Pq LB RS Q9 Qs)
  (e23:En K "keep_line" ph f23 Na Mq KC Oi Pp Lz RQ Q8 Qr)
  (e24:En K "keep_train" oj f24 M9 Mp KA Oh Po Ly RP Q7 Qq)
  (e25:En K "keep_shown" jA f25 M8 Mo Kz Og Pn Lx RO Q6 Qp)
  (e26:En K "go_on" xK f26 M7 Mn Ky Of Pm Lw RN Q5 Qo)
  (e27:En K "go_back" rR f27 M6 Mm Kx Oe Pl Lv RM Q4 Qn)
  (e28:En K "turn_round" n6 f28 M5 Mj Kw Od Pk Lu RL Q3 Qm)
  (e29:En K "tell_moves" lU f29 M4 Mi Kv Oc Pj Ls RK QZ Ql)
  (e30:En K "tell_train" n8 f30 M3 Mh Ku Ob Ph Lr RJ QY Qk)
  (e31:En K "_law_cell_at" jL f31 M0 Mg Kt Oa Pg Lq RI QX Qj)
  (e32:En K "_law_mix" me f32 MZ Mf Ks N9 Pf Lp RH QW Qi)
  (e33:En K "_law_other" jm f33 MY Me Kr N8 Pe Lo RG QV Qh)
  (e34:En K "_law_line" oh f34 MX Md Kq N7 Pc Lm RF QU Qg)
  (e35:En K "_law_joined" iQ f35 MW Mc Kp N6 Pb Ll RE QT Qf)
  (e36:En K "_law_train" j6 f36 MV Mb Ko N5 Pa Lk RD QS Qe)
  (e37:En K "_law_moves" j8 f37 MU L9 Kn N4 O9 Lj RC QR Qd)
  (e38:En K "_law_turned" kA f38 MT L8 Km N3 O8 Li RB QQ Qc)
  (e39:En K "_law_end_text" ig f39 MS L7 Kl N1 O7 Lh RA QP Qb)
  (e40:En K "_law_train_text" ic f40 MR L6 Kk N0 O6 Lg Rz QO Qa)
  (e41:En K "_law_run_text" jk f41 MQ L5 Kj NZ O5 Le Ry QN PZ)
  (e42:En K "_law_line_text" jP f42 MP L4 Ki NY O4 Ld Rx QM PY)
  (e43:En K "_law_is_train" jo f43 MO LZ Kh NW O3 Lc Rw QL PX)
  (e44:En K "_law_kind" oi f44 MN LY Kg NV O2 Lb Rv QK PV)
  (e45:En K "_law_said" mB f45 MM LX Kf NU O1 La Ru QJ PU)
  (e46:En K "_law_due" kS f46 MK LW Ke NT O0 K9 Rt QI PR)
  (e47:En K "_law_drawn_row" iX f47 MJ LV Kd NS OZ K8 Rr QH PQ)
  (e48:En K "_law_small_well" jz f48 MI LU Kc NR OY K7 Rq QG PM)
  (e49:En K "_law_told" og f49 MG LS Kb NQ OX K6 Rp QF PL)
  (e50:En K "law" wL f50 MF LR J9 Jk JG IV JM JJ JH)
  (z1:PySem.W.nsIn K mainGlobals "len" = some none) (z2:PySem.W.nsIn K mainGlobals "range" = some none) (z3:PySem.W.nsIn K mainGlobals "sorted" = some none) (z4:PySem.W.nsIn K mainGlobals "enumerate" = some none) (z5:PySem.W.nsIn K mainGlobals "reversed" = some none) (z6:PySem.W.nsIn K mainGlobals "min" = some none) (z7:PySem.W.nsIn K mainGlobals "max" = some none) (z8:PySem.W.nsIn K mainGlobals "list" = some none) (z9:PySem.W.nsIn K mainGlobals "int" = some none) (z10:PySem.W.nsIn K mainGlobals "isinstance" = some none) (z11:PySem.W.nsIn K mainGlobals "zip" = some none) (z12:PySem.W.nsIn K mainGlobals "sum" = some none) (z13:PySem.W.nsIn K mainGlobals "all" = some none) (z14:PySem.W.nsIn K mainGlobals "set" = some none) (z15:PySem.W.nsIn K mainGlobals "tuple" = some none) (z16:PySem.W.nsIn K mainGlobals "abs" = some none) (z17:PySem.W.nsIn K mainGlobals "bool" = some none) (z18:PySem.W.nsIn K mainGlobals "dict" = some none) (z19:PySem.W.nsIn K mainGlobals "str" = some none)
  {C0 C1 C2 C3 C4 C5 C6 C7:Addr} (ve:PySem.W.nsIn K mainGlobals "ValueError" = some none) (xb0:mK K "TurnError" C0) (xb1:mK K "NoLine" C1) (xb2:mK K "NoTrain" C2) (xb3:mK K "NoMove" C3) (xb4:mK K "NoPiece" C4) (xb5:mK K "TooMany" C5) (xb6:mK K "NoText" C6) (xb7:mK K "NoRow" C7) (xd1:qE K C0 C1) (xd2:qE K C0 C2) (xd3:qE K C0 C3) (xd4:qE K C0 C4) (xd5:qE K C0 C5) (xd6:qE K C0 C6) (xd7:qE K C0 C7) (xe1:rE K C1 C2 C3 C4 C5 C6 C7) (xe2:rE K C2 C1 C3 C4 C5 C6 C7) (xe3:rE K C3 C1 C2 C4 C5 C6 C7) (xe4:rE K C4 C1 C2 C3 C5 C6 C7) (xe5:rE K C5 C1 C2 C3 C4 C6 C7) (xe6:rE K C6 C1 C2 C3 C4 C5 C7) (xe7:rE K C7 C1 C2 C3 C4 C5 C6) (nd:[C1,C2,C3,C4,C5,C6,C7].Nodup)
  {tk0:Tok} (ck0:PySem.W.nsIn K mainGlobals "MOST_PIECES" = some (some (.int 40 tk0)))
  {tk1:Tok} (ck1:PySem.W.nsIn K mainGlobals "MOST_JOINTS" = some (some (.int 80 tk1)))
  {tk2:Tok} (ck2:PySem.W.nsIn K mainGlobals "FIGURES" = some (some (.str "0123456789" tk2)))
  {tk3:Tok} (ck3:PySem.W.nsIn K mainGlobals "MOST_FIGURES" = some (some (.int 40 tk3)))
  {CD FI FS:Addr} (dn:PySem.W.nsIn K mainGlobals "Desk" = some (some (.ref CD))) (d1:PySem.W.makesIn K CD=true) (d2:PySem.W.findIn K (.ref CD) "__init__" = some (some (.ref FI))) (d3:PySem.W.isFn K (.ref FI)=true) (d4:PySem.W.keepIn K (.ref CD)=true) (d5:PySem.W.plainGet K CD Str.empty=true) (d6:PySem.W.hasDictIn K CD=true) (d7:PySem.W.plainOver K CD=true) (d8:PySem.W.findIn K (.ref CD) "__setattr__" = some (some (.builtin "object.__setattr__"))) (d9:PySem.W.findIn K (.ref CD) "say" = some (some (.ref FS))) (d10:PySem.W.isFn K (.ref FS)=true) (d11:PySem.W.keepIn K (.ref FS)=true) (d12:PySem.W.findIn K (.ref CD) "line" = some none) (d13:PySem.W.findIn K (.ref CD) "train" = some none)
  {NF NK:Option Addr}{NC:Array (Option Value)}{NG NH NI ND Jg NJ:Value} (mil:K.lookup FI=some ⟨NG,NF,.func (PySem.W.fnOf "__init__" "Desk.__init__" (lu iz) (jR iz) (fh iz) .none NH NI ND NK Jg NJ),NC⟩) (mic:PySem.W.codeIn K Jg "Desk.__init__" = true) (mik:PySem.W.keepIn K (.ref FI)=true)
  {Nw NB:Option Addr}{Nu:Array (Option Value)}{Nx Ny Nz Nv Je NA:Value} (msl:K.lookup FS=some ⟨Nx,Nw,.func (PySem.W.fnOf "say" "Desk.say" (lu iR) (jR iR) (fh iR) .none Ny Nz Nv NB Je NA),Nu⟩) (msc:PySem.W.codeIn K Je "Desk.say" = true) (msk:PySem.W.keepIn K (.ref FS)=true)
  {od0 xO om qw:Addr}{wX wY zO zN qp tG:Tok}{ep0:Nat} (ka0:PySem.W.nsIn K mainGlobals "ALONE" = some (some (.ref od0))) (kb0:K.lookup od0=some {cls:=.type "dict",data:=.dict #[⟨PyData.keyHash w.params (Str.ofString "round"),.str (Str.ofString "round") wX,.ref f28⟩,⟨PyData.keyHash w.params (Str.ofString "moves"),.str (Str.ofString "moves") wY,.ref f29⟩,⟨PyData.keyHash w.params (Str.ofString "here"),.str (Str.ofString "here") zO,.ref f30⟩,⟨PyData.keyHash w.params (Str.ofString "turn"),.str (Str.ofString "turn") zN,.ref xO⟩,⟨PyData.keyHash w.params (Str.ofString "standings"),.str (Str.ofString "standings") qp,.ref om⟩,⟨PyData.keyHash w.params (Str.ofString "longest"),.str (Str.ofString "longest") tG,.ref qw⟩] ep0}) (kc0:(od0==sysModules)=false)
  {od1 uB rS uA:Addr}{zL wU Ew zM wW vc wV:Tok}{ep1:Nat} (ka1:PySem.W.nsIn K mainGlobals "WITH_REST" = some (some (.ref od1))) (kb1:K.lookup od1=some {cls:=.type "dict",data:=.dict #[⟨PyData.keyHash w.params (Str.ofString "line"),.str (Str.ofString "line") zL,.ref f23⟩,⟨PyData.keyHash w.params (Str.ofString "train"),.str (Str.ofString "train") wU,.ref f24⟩,⟨PyData.keyHash w.params (Str.ofString "on"),.str (Str.ofString "on") Ew,.ref f26⟩,⟨PyData.keyHash w.params (Str.ofString "back"),.str (Str.ofString "back") zM,.ref f27⟩,⟨PyData.keyHash w.params (Str.ofString "least"),.str (Str.ofString "least") wW,.ref uB⟩,⟨PyData.keyHash w.params (Str.ofString "fewest"),.str (Str.ofString "fewest") vc,.ref rS⟩,⟨PyData.keyHash w.params (Str.ofString "sides"),.str (Str.ofString "sides") wV,.ref uA⟩] ep1}) (kc1:(od1==sysModules)=false):
  ∃ fd:FuncData,(∀ (s:Shared) (v:Value),BindsTo s fd ⟨[v],[]⟩ [("_law_script",v)])/\∀ base:Heap,K.In base->base.Ns mainGlobals mg->fm l.prog w K mg base CX0 11 fa fd ["_law_script"] (xy K):=by
 have e:=hfa.symm.trans (cD X G e50.a)
 cases e
 have B:Bm mg:=⟨⟨aZ X G z1,aZ X G z2,aZ X G z3,aZ X G z4,aZ X G z5,aZ X G z6,aZ X G z7,aZ X G z8,aZ X G z9,aZ X G z10⟩,aZ X G z11,aZ X G z12,aZ X G z13,aZ X G z14,aZ X G z15,aZ X G z16,aZ X G z17,aZ X G z18,aZ X G z19⟩
 have XS:=Ij X G ve xb0 xb1 xb2 xb3 xb4 xb5 xb6 xb7 xd1 xd2 xd3 xd4 xd5 xd6 xd7 xe1 xe2 xe3 xe4 xe5 xe6 xe7 nd
 have CL:Cl mg tk0 tk1:=⟨cD X G ck0,cD X G ck1⟩
 have CT:Ct mg tk2 tk3:=⟨cD X G ck2,cD X G ck3⟩
 have DK:DkK K mg CD FI FS:=⟨⟨d1,d2,d3,d4⟩,cD X G dn,⟨d5,d6,d7,d8⟩,⟨d9,d10,d11⟩,d12,d13⟩
 have lF:Fm K "__init__" "Desk.__init__" iz ["self"] FI _:=⟨su (st:=iz) mil mic mik,(su (st:=iz) mil mic mik).binds (ps:=["self"]) λ_ _ _ _ _ _=>bn1 (λ_=>rfl)⟩
 have oR:Fm K "say" "Desk.say" iR ["self","row"] FS _:=⟨su (st:=iR) msl msc msk,(su (st:=iR) msl msc msk).binds (ps:=["self","row"]) λ_ _ _ _ _ _=>bn2 (λ_ _=>rfl)⟩
 have uf:A8 l.prog w K mg "ALONE" od0 _:=kd_in (kvs:=[(Str.ofString "round",f28,wX),(Str.ofString "moves",f29,wY),(Str.ofString "here",f30,zO),(Str.ofString "turn",xO,zN),(Str.ofString "standings",om,qp),(Str.ofString "longest",qw,tG)]) (cD X G ka0) kb0 (by show([Str.ofString "round",Str.ofString "moves",Str.ofString "here",Str.ofString "turn",Str.ofString "standings",Str.ofString "longest"]:List Str).Nodup;decide +kernel)
 have m7:A8 l.prog w K mg "WITH_REST" od1 _:=kd_in (kvs:=[(Str.ofString "line",f23,zL),(Str.ofString "train",f24,wU),(Str.ofString "on",f26,Ew),(Str.ofString "back",f27,zM),(Str.ofString "least",uB,wW),(Str.ofString "fewest",rS,vc),(Str.ofString "sides",uA,wV)]) (cD X G ka1) kb1 (by show([Str.ofString "line",Str.ofString "train",Str.ofString "on",Str.ofString "back",Str.ofString "least",Str.ofString "fewest",Str.ofString "sides"]:List Str).Nodup;decide +kernel)
 have fT:=gk (ps:=["end"]) X G e1 λ_ _ _ _ _ _=>bn1 (λ_=>rfl)
 have fK:=gk (ps:=["end"]) X G e2 λ_ _ _ _ _ _=>bn1 (λ_=>rfl)
 have ir:=gk (ps:=["line","end"]) X G e3 λ_ _ _ _ _ _=>bn2 (λ_ _=>rfl)
 have jI:=gk (ps:=["line"]) X G e4 λ_ _ _ _ _ _=>bn1 (λ_=>rfl)
 have jc:=gk (ps:=["line","joint"]) X G e5 λ_ _ _ _ _ _=>bn2 (λ_ _=>rfl)
 have i6:=gk (ps:=["line","end"]) X G e6 λ_ _ _ _ _ _=>bn2 (λ_ _=>rfl)
 have i9:=gk (ps:=["line","train"]) X G e7 λ_ _ _ _ _ _=>bn2 (λ_ _=>rfl)
 have nS:=gk (ps:=["train"]) X G e8 λ_ _ _ _ _ _=>bn1 (λ_=>rfl)
 have iD:=gk (ps:=["line","train","end"]) X G e9 λ_ _ _ _ _ _=>bn3 (λ_ _ _=>rfl)
 have ip:=gk (ps:=["line","train"]) X G e10 λ_ _ _ _ _ _=>bn2 (λ_ _=>rfl)
 have mP:=gk (ps:=["line","train","move"]) X G e11 λ_ _ _ _ _ _=>bn3 (λ_ _ _=>rfl)
 have ik:=gk (ps:=["end"]) X G e12 λ_ _ _ _ _ _=>bn1 (λ_=>rfl)
 have gS:=gk (ps:=["train"]) X G e13 λ_ _ _ _ _ _=>bn1 (λ_=>rfl)
 have lh:=gk (ps:=["run"]) X G e14 λ_ _ _ _ _ _=>bn1 (λ_=>rfl)
 have gF:=gk (ps:=["text"]) X G e15 λ_ _ _ _ _ _=>bn1 (λ_=>rfl)
 have fS:=gk (ps:=["text"]) X G e16 λ_ _ _ _ _ _=>bn1 (λ_=>rfl)
 have gp:=gk (ps:=["row","word","many"]) X G e17 λ_ _ _ _ _ _=>bn3 (λ_ _ _=>rfl)
 have jG:=gk (ps:=["row"]) X G e18 λ_ _ _ _ _ _=>bn1 (λ_=>rfl)
 have kf:=gk (ps:=["text"]) X G e19 λ_ _ _ _ _ _=>bn1 (λ_=>rfl)
 have jF:=gk (ps:=["text"]) X G e20 λ_ _ _ _ _ _=>bn1 (λ_=>rfl)
 have fJ:=gk (ps:=["desk"]) X G e21 λ_ _ _ _ _ _=>bn1 (λ_=>rfl)
 have fG:=gk (ps:=["desk"]) X G e22 λ_ _ _ _ _ _=>bn1 (λ_=>rfl)
 have pV:=gk (ps:=["desk","rest"]) X G e23 λ_ _ _ _ _ _=>bn2 (λ_ _=>rfl)
 have oQ:=gk (ps:=["desk","rest"]) X G e24 λ_ _ _ _ _ _=>bn2 (λ_ _=>rfl)
 have gc:=gk (ps:=["desk","train"]) X G e25 λ_ _ _ _ _ _=>bn2 (λ_ _=>rfl)
 have yJ:=gk (ps:=["desk","rest"]) X G e26 λ_ _ _ _ _ _=>bn2 (λ_ _=>rfl)
 have sT:=gk (ps:=["desk","rest"]) X G e27 λ_ _ _ _ _ _=>bn2 (λ_ _=>rfl)
 have oM:=gk (ps:=["desk"]) X G e28 λ_ _ _ _ _ _=>bn1 (λ_=>rfl)
 have oP:=gk (ps:=["desk"]) X G e29 λ_ _ _ _ _ _=>bn1 (λ_=>rfl)
 have oO:=gk (ps:=["desk"]) X G e30 λ_ _ _ _ _ _=>bn1 (λ_=>rfl)
 have fZ:=gk (ps:=["_law_script","_law_k"]) X G e31 λ_ _ _ _ _ _=>bn2 (λ_ _=>rfl)
 have fV:=gk (ps:=["_law_cell","_law_k"]) X G e32 λ_ _ _ _ _ _=>bn2 (λ_ _=>rfl)
 have fI:=gk (ps:=["_law_end"]) X G e33 λ_ _ _ _ _ _=>bn1 (λ_=>rfl)
 have hX:=gk (ps:=["_law_script","_law_start","_law_most","_law_upto"]) X G e34 λ_ _ _ _ _ _=>bn4 (λ_ _ _ _=>rfl)
 have fP:=gk (ps:=["_law_line_here","_law_end"]) X G e35 λ_ _ _ _ _ _=>bn2 (λ_ _=>rfl)
 have kg:=gk (ps:=["_law_line_here","_law_number","_law_most"]) X G e36 λ_ _ _ _ _ _=>bn3 (λ_ _ _=>rfl)
 have gA:=gk (ps:=["_law_line_here","_law_train_here"]) X G e37 λ_ _ _ _ _ _=>bn2 (λ_ _=>rfl)
 have jH:=gk (ps:=["_law_train_here"]) X G e38 λ_ _ _ _ _ _=>bn1 (λ_=>rfl)
 have fv:=gk (ps:=["_law_end"]) X G e39 λ_ _ _ _ _ _=>bn1 (λ_=>rfl)
 have fR:=gk (ps:=["_law_train_here"]) X G e40 λ_ _ _ _ _ _=>bn1 (λ_=>rfl)
 have iJ:=gk (ps:=["_law_run"]) X G e41 λ_ _ _ _ _ _=>bn1 (λ_=>rfl)
 have iw:=gk (ps:=["_law_line_here"]) X G e42 λ_ _ _ _ _ _=>bn1 (λ_=>rfl)
 have iK:=gk (ps:=["_law_line_here","_law_train_here"]) X G e43 λ_ _ _ _ _ _=>bn2 (λ_ _=>rfl)
 have lj:=gk (ps:=["_law_kept"]) X G e44 λ_ _ _ _ _ _=>bn1 (λ_=>rfl)
 have iq:=gk (ps:=["_law_desk","_law_row"]) X G e45 λ_ _ _ _ _ _=>bn2 (λ_ _=>rfl)
 have iL:=gk (ps:=["_law_state","_law_word","_law_thing"]) X G e46 λ_ _ _ _ _ _=>bn3 (λ_ _ _=>rfl)
 have ix:=gk (ps:=["_law_state","_law_number","_law_line_here"]) X G e47 λ_ _ _ _ _ _=>bn3 (λ_ _ _=>rfl)
 have ie:=gk (ps:=["_law_desk","_law_state"]) X G e48 λ_ _ _ _ _ _=>bn2 (λ_ _=>rfl)
 have iW:=gk (ps:=["_law_desk","_law_state","_law_number","_law_line_here"]) X G e49 λ_ _ _ _ _ _=>bn4 (λ_ _ _ _=>rfl)
 have JQ:=gk (ps:=["_law_script"]) X G e50 λ_ _ _ _ _ _=>bn1 (λ_=>rfl)
 refine⟨PySem.W.fnOf "law" "law" (lu wL) (jR wL) (fh wL) .none Jk JG IV JM JJ JH,λs v=>.of_eq rfl,λbase _ _=>?_⟩
 have XL:Xl K mg _:=⟨XS.je⟩
 have XX:Xx K mg _:=⟨XS.kL⟩
 have XR:Xr K mg _ _:=⟨XS.ji,XS.sQ⟩
 have mM:fm l.prog w K mg base CX0 3 _ _ _ _:=(zt hX fV fZ B.toBl).mono (by decide)
 have nA:fm l.prog w K mg base (CXr l.prog w base) 2 _ _ _ _:=uR jc XL ir fK
 have oK:fm l.prog w K mg base (CXr l.prog w base) 3 _ _ _ _:=wk jI XL B CL jc nA
 have i8:fm l.prog w K mg base (CXr l.prog w base) 1 _ _ _ _:=uP gF B CT XX
 have gW:fm l.prog w K mg base (CXr l.prog w base) 2 _ _ _ _:=zo fS XX gF i8
 have iI:fm l.prog w K mg base (CXr l.prog w base) 1 _ _ _ _:=tS gp B XX
 have oH:fm l.prog w K mg base (CXr l.prog w base) 3 _ _ _ _:=wb jG fS gp gW iI
 have pT:fm l.prog w K mg base (CXr l.prog w base) 4 _ _ _ _:=xV kf gF gp jG jI i8 iI oH oK
 have oG:fm l.prog w K mg base (CXr l.prog w base) 4 _ _ _ _:=(wa jF fS gW).mono (by decide)
 have kX:fm l.prog w K mg base CX0 2 _ _ _ _:=zk ik fK
 have jD:fm l.prog w K mg base CX0 3 _ _ _ _:=v9 gS ik kX
 have qF:fm l.prog w K mg base CX0 3 _ _ _ _:=zj lh ik kX
 have vL:fm l.prog w K mg base CX0 2 _ _ _ _:=Cu nS B.toBl fT
 have m8:fm l.prog w K mg base CX0 2 _ _ _ _:=xZ iD B.toBl fK i6
 have kY:fm l.prog w K mg base CX0 3 _ _ _ _:=zp ip fT iD m8
 have sS:fm l.prog w K mg base (CXr l.prog w base) 4 _ _ _ _:=FD mP XR ip kY
 have nz:fm l.prog w K mg base (CXr l.prog w base) 4 _ _ _ _:=(uQ i9 XR B ir fK i6 fT).mono (by decide)
 have gz:fm l.prog w K mg base (CXr l.prog w base) 1 _ _ _ _:=rf fJ XS DK
 have gi:fm l.prog w K mg base (CXr l.prog w base) 2 _ _ _ _:=we fG XS DK fJ
 have Al:fm l.prog w K mg base (CXr l.prog w base) 5 _ _ _ (lz K CD [C1,C3,C4,C7,C6,C2,C5] 2100 qr):=xY pV DK kf pT
 have h8:fm l.prog w K mg base CX0 4 _ _ _ _:=wj gc DK gS jD
 have yI:fm l.prog w K mg base (CXr l.prog w base) 5 _ _ _ (lz K CD [C1,C3,C4,C7,C6,C2,C5] 800 kG):=wg oQ DK jF oG fJ gz i9 nz
 have Gd:fm l.prog w K mg base (CXr l.prog w base) 5 _ _ _ (lz K CD [C1,C3,C4,C7,C6,C2,C5] 800 (dGo "on")):=Ea yJ fS gW fJ gz fG gi mP sS gc h8
 have Dk:fm l.prog w K mg base (CXr l.prog w base) 5 _ _ _ (lz K CD [C1,C3,C4,C7,C6,C2,C5] 800 (dGo "back")):=AH sT fS gW fJ gz fG gi mP sS gc h8
 have yG:fm l.prog w K mg base (CXr l.prog w base) 4 _ _ _ (nG K CD [C1,C3,C4,C7,C6,C2,C5] xg):=v5 oO gS jD fG gi
 have yF:fm l.prog w K mg base (CXr l.prog w base) 5 _ _ _ (nG K CD [C1,C3,C4,C7,C6,C2,C5] sE):=v3 oM fG gi nS vL gc h8
 have yH:fm l.prog w K mg base (CXr l.prog w base) 4 _ _ _ (nG K CD [C1,C3,C4,C7,C6,C2,C5] sF):=v7 oP lh qF fJ gz fG gi ip kY
 have qG:fm l.prog w K mg base (CXr l.prog w base) 8 _ _ _ _:=zv oR XS m7 kc1 uf kc0
 have DD:Am l.prog w K mg base _ _ CD [C1,C3,C4,C7,C6,C2,C5]:=EO [(Str.ofString "least",uB),(Str.ofString "fewest",rS),(Str.ofString "sides",uA)] [(Str.ofString "turn",xO),(Str.ofString "standings",om),(Str.ofString "longest",qw)] ⟨_,_,Al.mono (by decide),pV.F.kp,pV.b⟩ ⟨_,_,yI.mono (by decide),oQ.F.kp,oQ.b⟩ ⟨_,_,Gd.mono (by decide),yJ.F.kp,yJ.b⟩ ⟨_,_,Dk.mono (by decide),sT.F.kp,sT.b⟩ ⟨_,_,yF.mono (by decide),oM.F.kp,oM.b⟩ ⟨_,_,yG.mono (by decide),oO.F.kp,oO.b⟩ ⟨_,_,yH.mono (by decide),oP.F.kp,oP.b⟩
 have lg:fm l.prog w K mg base CX0 9 _ _ _ _:=zr iq XS B DK oR qG lj
 have pU:fm l.prog w K mg base CX0 2 _ _ _ _:=xW kg fV fI fP B.toBl
 have jx:fm l.prog w K mg base CX0 2 _ _ _ _:=xX gA fI fP B.toBl
 have lO:fm l.prog w K mg base CX0 2 _ _ _ _:=rY iw B fv
 have gX:fm l.prog w K mg base CX0 2 _ _ _ _:=q9 fR B fv
 have mL:fm l.prog w K mg base CX0 2 _ _ _ _:=tT iJ B fv
 have gE:fm l.prog w K mg base CX0 1 _ _ _ _:=jQ fv B
 have oI:fm l.prog w K mg base CX0 2 _ _ _ _:=wc jH fI
 have mO:fm l.prog w K mg base CX0 2 _ _ _ _:=tU iK B fP fI
 have mi:fm l.prog w K mg base CX0 3 _ _ _ _:=AF iL B iK mO gA jx iJ mL fR gX jH oI
 have lP:fm l.prog w K mg base CX0 3 _ _ _ _:=rZ ix B iw lO gA jx kg pU fR gX fv gE
 have oJ:fm l.prog w K mg base CX0 10 _ _ _ _:=zq iW DD ix lP iq lg iL mi
 have kZ:fm l.prog w K mg base CX0 10 _ _ _ _:=ra ie DD iq lg iL mi
 exact Hj JQ B DK lF hX mM fV fZ iW oJ ie kZ
theorem walk {l:PySem.W.OpenLaw}{q:Program}{loose:List Str}{XP:(Str->Option Value)->Heap->Prop}{YP:World->Heap->Prop}{d:DefRec}{K:Params->PySem.W.Frag}(hn:l.most=some 63)(hdf:d.params.defaults = [])
  (hY:∀ (w:World) (h:Heap),YP w h->(K w.params).In h)
  (F:∀ (w:World) (mg:Str->Option Value) (fa:Addr) (h:Heap),(K w.params).In h->h.Ns mainGlobals mg->mg d.name=some (.ref fa)->
   ∃ fd:FuncData,(∀ (s:Shared) (u:Value),BindsTo s fd ⟨[u],[]⟩ [("_law_script",u)])/\∀ base:Heap,(K w.params).In base->base.Ns mainGlobals mg->fm l.prog w (K w.params) mg base CX0 11 fa fd ["_law_script"] (xy (K w.params))):
  PySem.W.WalkO q loose XP YP l.row.toRowW d [] (λf vs=>PySem.call f vs):=
 L2.Fd (n:=63) (k:=11) (x:= "_law_script") (CX:=λ_=>CX0) (sp:=λw=>xy (K w.params)) hn (by decide) hdf ⟨rfl,by decide,by decide⟩ hY F (λ_ _ a ns hl _ hS=>⟨a,ns,rfl,hS,λ_=>rfl⟩) λ_ _ _ _ _ z=>z
end K81
namespace PySem.W.Fast
noncomputable def tw10002471813459887943:=0
noncomputable def tw1004894552984676460:=0
noncomputable def tw10067239325358376442:=0
noncomputable def tw10067770622001419709:=0
noncomputable def tw10094905144452060972:=0
noncomputable def tw10124116955622271079:=0
noncomputable def tw10153252986264098758:=0
noncomputable def tw10158945894861047007:=0
noncomputable def tw10158972567903078865:=0
noncomputable def tw10163499731292595266:=0
noncomputable def tw10177740920089054744:=0
noncomputable def tw10181616575870533247:=0
noncomputable def tw10190579118309248198:=0
noncomputable def tw10197134933843839836:=0
noncomputable def tw10205922852247613259:=0
noncomputable def tw10220385266176119156:=0
noncomputable def tw10249749687839792304:=0
noncomputable def tw10285477255244296041:=0
noncomputable def tw10295408096648051016:=0
noncomputable def tw10344354399084035012:=0
noncomputable def tw10376295405955314578:=0
noncomputable def tw10394948106429046907:=0
noncomputable def tw10422099312022709980:=0
noncomputable def tw10427524025680310332:=0
noncomputable def tw10429403403814079801:=0
noncomputable def tw10443574982083133051:=0
noncomputable def tw10533428827942779082:=0
noncomputable def tw10561550728247839610:=0
noncomputable def tw10649354168111525212:=0
noncomputable def tw10688565381967776124:=0
noncomputable def tw10709964307763181504:=0
noncomputable def tw10754591455720129848:=0
noncomputable def tw10779528675725070587:=0
noncomputable def tw10821698838354911164:=0
noncomputable def tw10860731133826571366:=0
noncomputable def tw10862923378950948624:=0
noncomputable def tw10866458455522291563:=0
noncomputable def tw10892637400266241147:=0
noncomputable def tw10894727072321974598:=0
noncomputable def tw10952374981752490691:=0
noncomputable def tw11009628721824376380:=0
noncomputable def tw11098801792016484619:=0
noncomputable def tw1110337789437716051:=0
noncomputable def tw11106273195239410843:=0
noncomputable def tw11123124414578757823:=0
noncomputable def tw1114081219347903220:=0
noncomputable def tw11156507207602646720:=0
noncomputable def tw11214720292354155919:=0
noncomputable def tw11226845009615645605:=0
noncomputable def tw11235557212839982188:=0
noncomputable def tw11258964763840556618:=0
noncomputable def tw11269161817860994606:=0
noncomputable def tw11318590066575487690:=0
noncomputable def tw11320160965268573205:=0
noncomputable def tw11323490727767600161:=0
noncomputable def tw11354298866240221402:=0
noncomputable def tw11419305252155704942:=0
noncomputable def tw11421272419989959487:=0
noncomputable def tw11445076588956857291:=0
noncomputable def tw11544122004027973767:=0
noncomputable def tw11560753032034525893:=0
noncomputable def tw11602450955273389457:=0
noncomputable def tw11689609960873546568:=0
noncomputable def tw11690344810678448305:=0
noncomputable def tw11699062031060438896:=0
noncomputable def tw11715055512938651441:=0
noncomputable def tw11721072591368301827:=0
noncomputable def tw11726908978637625992:=0
noncomputable def tw11779452445545864729:=0
noncomputable def tw11797568680601448039:=0
noncomputable def tw11804425533238463885:=0
noncomputable def tw11927136886955471607:=0
noncomputable def tw1193518866735308200:=0
noncomputable def tw11979868701450969232:=0
noncomputable def tw12021769346705738091:=0
noncomputable def tw12048307906925661762:=0
noncomputable def tw12057392417981113282:=0
noncomputable def tw12131462069174698524:=0
noncomputable def tw12175959608851987612:=0
noncomputable def tw12185931405813358788:=0
noncomputable def tw12207187043450119201:=0
noncomputable def tw12225723622014271349:=0
noncomputable def tw1226221022965218637:=0
noncomputable def tw12280148012518793645:=0
noncomputable def tw12284762877514437615:=0
noncomputable def tw12295056547966333505:=0
noncomputable def tw12355339175432841911:=0
noncomputable def tw12375784275199606888:=0
noncomputable def tw12431144194800389833:=0
noncomputable def tw1246083513612601412:=0
noncomputable def tw12482257819525882345:=0
noncomputable def tw12494026742512187063:=0
noncomputable def tw12506460937280557121:=0
noncomputable def tw12537733309432302200:=0
noncomputable def tw12541372480549016553:=0
noncomputable def tw12553444187255912419:=0
noncomputable def tw12572118554860636046:=0
noncomputable def tw12645212291226458027:=0
noncomputable def tw12648435570886983247:=0
noncomputable def tw12650001609814070688:=0
noncomputable def tw12655170910397987288:=0
noncomputable def tw12678968070315608962:=0
noncomputable def tw12700080375232025877:=0
noncomputable def tw12721900386776733408:=0
noncomputable def tw12741255419645907152:=0
noncomputable def tw12783647762243880831:=0
noncomputable def tw12789100547337772717:=0
noncomputable def tw12841800553044524886:=0
noncomputable def tw12865299785453681758:=0
noncomputable def tw12865914323088849279:=0
noncomputable def tw12878255348585470414:=0
noncomputable def tw12956735040570435986:=0
noncomputable def tw12958895685736522297:=0
noncomputable def tw1296380629453165625:=0
noncomputable def tw1303725378111210327:=0
noncomputable def tw13058373926438858886:=0
noncomputable def tw13060757909049342623:=0
noncomputable def tw13074279410497540725:=0
noncomputable def tw13083412284746532502:=0
noncomputable def tw1311177645570557099:=0
noncomputable def tw13214660840672056555:=0
noncomputable def tw13224191800518062404:=0
noncomputable def tw1324939608159648769:=0
noncomputable def tw13257777796970032358:=0
noncomputable def tw13305805324740047415:=0
noncomputable def tw13318615292050011137:=0
noncomputable def tw13342198093838113626:=0
noncomputable def tw13426880409964744369:=0
noncomputable def tw13474040278176538472:=0
noncomputable def tw13482576023161605734:=0
noncomputable def tw13495965630648112789:=0
noncomputable def tw13502778976749289667:=0
noncomputable def tw13503660475197844553:=0
noncomputable def tw13508348275633995085:=0
noncomputable def tw13581114889062390530:=0
noncomputable def tw13619826464651271139:=0
noncomputable def tw13684339474435144274:=0
noncomputable def tw13691665061014058261:=0
noncomputable def tw13717851392952041605:=0
noncomputable def tw13723671918070892437:=0
noncomputable def tw13748277655618646649:=0
noncomputable def tw13800905795674045369:=0
noncomputable def tw13828013227515426177:=0
noncomputable def tw13837995699919458355:=0
noncomputable def tw1387496345807980705:=0
noncomputable def tw13904690765552257988:=0
noncomputable def tw13944618706458727220:=0
noncomputable def tw13959908117089889110:=0
noncomputable def tw13971992192593137132:=0
noncomputable def tw14075816317426423536:=0
noncomputable def tw14079221253759181967:=0
noncomputable def tw14093014704192673974:=0
noncomputable def tw14111828520717418319:=0
noncomputable def tw14165086045240223694:=0
noncomputable def tw14260900886701458659:=0
noncomputable def tw14296848341497300184:=0
noncomputable def tw14339911477419000281:=0
noncomputable def tw14373951474413734092:=0
noncomputable def tw14477913003139725839:=0
noncomputable def tw14496647185772068794:=0
noncomputable def tw14496913549760054271:=0
noncomputable def tw14500037079370803619:=0
noncomputable def tw14564252903542374625:=0
noncomputable def tw14604812716050262786:=0
noncomputable def tw14608127557165173505:=0
noncomputable def tw14614210605264398739:=0
noncomputable def tw14629099303321029428:=0
noncomputable def tw1465051675726288900:=0
noncomputable def tw14654719518394450604:=0
noncomputable def tw14684847126285420313:=0
noncomputable def tw14684983241634704013:=0
noncomputable def tw14685742005927916765:=0
noncomputable def tw14770395165168144864:=0
noncomputable def tw14840433009082804119:=0
noncomputable def tw14887043786520888673:=0
noncomputable def tw14955273154943227846:=0
noncomputable def tw15035397598182944125:=0
noncomputable def tw15108108567504626661:=0
noncomputable def tw1510859543115567722:=0
noncomputable def tw15133731056358207759:=0
noncomputable def tw1513614890445382153:=0
noncomputable def tw1514954077990531037:=0
noncomputable def tw15182567882213034027:=0
noncomputable def tw15193827541001153291:=0
noncomputable def tw15227734853375358809:=0
noncomputable def tw15233028499245991976:=0
noncomputable def tw15235859496936208331:=0
noncomputable def tw1525964575227801960:=0
noncomputable def tw15307407852100441571:=0
noncomputable def tw15459185849361235064:=0
noncomputable def tw15459745719423882046:=0
noncomputable def tw15494962408530527600:=0
noncomputable def tw15529671508129495742:=0
noncomputable def tw15627075557194477055:=0
noncomputable def tw15647085319700468731:=0
noncomputable def tw1565754678293602042:=0
noncomputable def tw15671233201687907769:=0
noncomputable def tw15731652691579142275:=0
noncomputable def tw15740007885148285263:=0
noncomputable def tw15794272567132036906:=0
noncomputable def tw15832656793485885643:=0
noncomputable def tw15836323340609481436:=0
noncomputable def tw15850126519802175090:=0
noncomputable def tw15853150197049845168:=0
noncomputable def tw15864639726771774195:=0
noncomputable def tw15867929175371921863:=0
noncomputable def tw15881277301863833378:=0
noncomputable def tw15894667932026509468:=0
noncomputable def tw15928643623021919700:=0
noncomputable def tw15953963018056626046:=0
noncomputable def tw1602223087570131357:=0
noncomputable def tw16071121401132948440:=0
noncomputable def tw16122563949238722134:=0
noncomputable def tw1617734126694657937:=0
noncomputable def tw16187442638215365526:=0
noncomputable def tw16347077886086942774:=0
noncomputable def tw16354821933457929405:=0
noncomputable def tw16376015866821469265:=0
noncomputable def tw16376615799462746833:=0
noncomputable def tw16404420771572578257:=0
noncomputable def tw16435158093006572970:=0
noncomputable def tw16447421055934308990:=0
noncomputable def tw16542083286014646392:=0
noncomputable def tw16552731447276502744:=0
noncomputable def tw16612795817079159735:=0
noncomputable def tw1663919830783363721:=0
noncomputable def tw16666300535102866182:=0
noncomputable def tw16690016651085982556:=0
noncomputable def tw16697966015363033373:=0
noncomputable def tw16702399328002608036:=0
noncomputable def tw16795284611259292073:=0
noncomputable def tw16973466488640347443:=0
noncomputable def tw1698622582563167308:=0
noncomputable def tw16999209532999564322:=0
noncomputable def tw17006869243190604928:=0
noncomputable def tw17008110781349122540:=0
noncomputable def tw17040037435445217947:=0
noncomputable def tw17101904988005153354:=0
noncomputable def tw17107684065134012861:=0
noncomputable def tw17109331580482378883:=0
noncomputable def tw1716654552613073779:=0
noncomputable def tw17171444777340121777:=0
noncomputable def tw1721132609672369519:=0
noncomputable def tw17227358166099065280:=0
noncomputable def tw17260991941893097220:=0
noncomputable def tw17273989571251590561:=0
noncomputable def tw17324131132307463587:=0
noncomputable def tw17333438201548678592:=0
noncomputable def tw17343266859170192055:=0
noncomputable def tw17377730281524117227:=0
noncomputable def tw17398769744117286970:=0
noncomputable def tw17439172791757582659:=0
noncomputable def tw17451147024480657950:=0
noncomputable def tw17460285311273933940:=0
noncomputable def tw17549677460935732910:=0
noncomputable def tw17564756344548108693:=0
noncomputable def tw17613518204765907585:=0
noncomputable def tw17655653732322189527:=0
noncomputable def tw17693234853176611528:=0
noncomputable def tw17703617374623584680:=0
noncomputable def tw17713217854974489686:=0
noncomputable def tw17760700355877304464:=0
noncomputable def tw17772724074513948365:=0
noncomputable def tw17774301503103546806:=0
noncomputable def tw17790031966275352698:=0
noncomputable def tw17791938525063874753:=0
noncomputable def tw17797095503842829584:=0
noncomputable def tw17800021365243303474:=0
noncomputable def tw17864602697388570317:=0
noncomputable def tw1792313003604472005:=0
noncomputable def tw17924332855008064405:=0
noncomputable def tw17940877477781266120:=0
noncomputable def tw17951544336071710432:=0
noncomputable def tw17952513389629158634:=0
noncomputable def tw17978410420280410533:=0
noncomputable def tw17992485731553579566:=0
noncomputable def tw17993182177175471853:=0
noncomputable def tw17998862322028521376:=0
noncomputable def tw18002799737259606870:=0
noncomputable def tw18006007157046610280:=0
noncomputable def tw18070611686255781180:=0
noncomputable def tw18119706616658394241:=0
noncomputable def tw18129528807828132039:=0
noncomputable def tw18167959752518512872:=0
noncomputable def tw18171077475918377947:=0
noncomputable def tw18174979738974780639:=0
noncomputable def tw18188316484800520104:=0
noncomputable def tw18240352209655097661:=0
noncomputable def tw18251377593895956306:=0
noncomputable def tw18286898060599062994:=0
noncomputable def tw18311566531998341461:=0
noncomputable def tw18335192629200223441:=0
noncomputable def tw18368117202460957691:=0
noncomputable def tw1837396727575398963:=0
noncomputable def tw18408987759979103831:=0
noncomputable def tw18446627812081371089:=0
noncomputable def tw1908185517194009157:=0
noncomputable def tw1919515961515230016:=0
noncomputable def tw1959443604321831638:=0
noncomputable def tw1970532565296959363:=0
noncomputable def tw2002730391448608563:=0
noncomputable def tw205519391957592207:=0
noncomputable def tw2058378033257172059:=0
noncomputable def tw2070832907986991488:=0
noncomputable def tw208266891307481526:=0
noncomputable def tw2149088521548484311:=0
noncomputable def tw2156435002006300950:=0
noncomputable def tw2169032376420201186:=0
noncomputable def tw2201951838711596413:=0
noncomputable def tw220623834687732398:=0
noncomputable def tw220953819313642054:=0
noncomputable def tw2227124787890122263:=0
noncomputable def tw2227494696460073752:=0
noncomputable def tw2227831338355074390:=0
noncomputable def tw2235278083481711873:=0
noncomputable def tw2293855000555739246:=0
noncomputable def tw2387310253900060447:=0
noncomputable def tw2409567307561937866:=0
noncomputable def tw2421771062652875473:=0
noncomputable def tw2431267841209557000:=0
noncomputable def tw2437286747934448849:=0
noncomputable def tw2451278442494833038:=0
noncomputable def tw2453345726740149671:=0
noncomputable def tw2460227037737145030:=0
noncomputable def tw2480682463749448319:=0
noncomputable def tw2483599173736852025:=0
noncomputable def tw2503847950923493849:=0
noncomputable def tw2536813545160873712:=0
noncomputable def tw2541614738861592361:=0
noncomputable def tw2555467366180243549:=0
noncomputable def tw259798696253117106:=0
noncomputable def tw2625304531433204684:=0
noncomputable def tw2643758204958333515:=0
noncomputable def tw2646677858888966025:=0
noncomputable def tw2659610896932915465:=0
noncomputable def tw2665595199496754759:=0
noncomputable def tw2707039596378560220:=0
noncomputable def tw2716861726640393497:=0
noncomputable def tw28178389444621965:=0
noncomputable def tw2831324332916355103:=0
noncomputable def tw2859431148210274838:=0
noncomputable def tw2861097155909113169:=0
noncomputable def tw2871199926938601832:=0
noncomputable def tw2882608188600974225:=0
noncomputable def tw2909022041640995774:=0
noncomputable def tw2917881395540784656:=0
noncomputable def tw2924579110753002355:=0
noncomputable def tw2931818457929115797:=0
noncomputable def tw2944982127191978637:=0
noncomputable def tw2973377829305346243:=0
noncomputable def tw3007013200923653891:=0
noncomputable def tw3050597082035394813:=0
noncomputable def tw3163373553571859673:=0
noncomputable def tw3170121401553678576:=0
noncomputable def tw3174808813444211430:=0
noncomputable def tw3211872870240619304:=0
noncomputable def tw3254996010964697623:=0
noncomputable def tw3271259980077768008:=0
noncomputable def tw3272796828024580420:=0
noncomputable def tw3345736302269436669:=0
noncomputable def tw3347854542488771455:=0
noncomputable def tw335323498444361476:=0
noncomputable def tw3431941532076227412:=0
noncomputable def tw3435798709312346184:=0
noncomputable def tw3528920573094856971:=0
noncomputable def tw3530384667147070679:=0
noncomputable def tw3576018666618127290:=0
noncomputable def tw3577057318681626495:=0
noncomputable def tw358229841610465811:=0
noncomputable def tw3642890007493914061:=0
noncomputable def tw3698644395729468599:=0
noncomputable def tw3730988755680812067:=0
noncomputable def tw3816214503910933373:=0
noncomputable def tw3818988016602045404:=0
noncomputable def tw3821116926730652501:=0
noncomputable def tw390951487655928091:=0
noncomputable def tw3941862968065318927:=0
noncomputable def tw3994156338586579139:=0
noncomputable def tw4039114281620202872:=0
noncomputable def tw4055745127368803690:=0
noncomputable def tw406702879835708625:=0
noncomputable def tw4072216304606617947:=0
noncomputable def tw4078595856226243016:=0
noncomputable def tw4083274904838384910:=0
noncomputable def tw4119650806003427805:=0
noncomputable def tw4128154274697983398:=0
noncomputable def tw4128690385322244744:=0
noncomputable def tw4176155877855866424:=0
noncomputable def tw4198837049419408775:=0
noncomputable def tw4230253886671279579:=0
noncomputable def tw4239255179143298668:=0
noncomputable def tw440842371142033992:=0
noncomputable def tw4457097843303091731:=0
noncomputable def tw447058812742280151:=0
noncomputable def tw4472416093181147358:=0
noncomputable def tw4487628782210374242:=0
noncomputable def tw4497663836069210106:=0
noncomputable def tw4521488618095537536:=0
noncomputable def tw4521653285916571476:=0
noncomputable def tw4602834579705498658:=0
noncomputable def tw4612531956099895325:=0
noncomputable def tw4640019250975310951:=0
noncomputable def tw4653989947983904530:=0
noncomputable def tw4654925140970483327:=0
noncomputable def tw4655613160187553522:=0
noncomputable def tw4661053402646871160:=0
noncomputable def tw4717273486580156282:=0
noncomputable def tw4759930396779970865:=0
noncomputable def tw4806705227234571430:=0
noncomputable def tw4817263734914742998:=0
noncomputable def tw4831192641485455333:=0
noncomputable def tw4897277522444196444:=0
noncomputable def tw491276842076203158:=0
noncomputable def tw4922747775979368112:=0
noncomputable def tw4924880716882950110:=0
noncomputable def tw4944917300821207715:=0
noncomputable def tw4980864899833842453:=0
noncomputable def tw5022666182269453694:=0
noncomputable def tw5059080075865921581:=0
noncomputable def tw5072210728792292538:=0
noncomputable def tw5076133445760854769:=0
noncomputable def tw5089591018925593339:=0
noncomputable def tw5103603972847179744:=0
noncomputable def tw5107072463478900365:=0
noncomputable def tw5138011683879769886:=0
noncomputable def tw5178167583869381968:=0
noncomputable def tw5202070460541584120:=0
noncomputable def tw5270329218182383964:=0
noncomputable def tw5276495752030354470:=0
noncomputable def tw5282585550121423258:=0
noncomputable def tw5312740524459204895:=0
noncomputable def tw538704001428557405:=0
noncomputable def tw5406988990478994141:=0
noncomputable def tw5438350620624389499:=0
noncomputable def tw5447181545268856182:=0
noncomputable def tw547226246547856995:=0
noncomputable def tw5489935807856269300:=0
noncomputable def tw5509829432236399204:=0
noncomputable def tw558391329717068845:=0
noncomputable def tw5593038367194256280:=0
noncomputable def tw5597386430970619592:=0
noncomputable def tw5605239097327462247:=0
noncomputable def tw5628196968098409193:=0
noncomputable def tw5659306886421555044:=0
noncomputable def tw5690402092167424000:=0
noncomputable def tw5832285306540983254:=0
noncomputable def tw5861994137138512090:=0
noncomputable def tw5879968557126076129:=0
noncomputable def tw5903305386530444908:=0
noncomputable def tw5915031432286329608:=0
noncomputable def tw591918087607940498:=0
noncomputable def tw5959490144628044729:=0
noncomputable def tw596882517453370125:=0
noncomputable def tw5969312532490321906:=0
noncomputable def tw6000760896171552946:=0
noncomputable def tw6002409530776078653:=0
noncomputable def tw6040913736162816354:=0
noncomputable def tw6070545164864602757:=0
noncomputable def tw607517290170813504:=0
noncomputable def tw6082481629675429712:=0
noncomputable def tw6086780096913898271:=0
noncomputable def tw6094348186092574942:=0
noncomputable def tw6146614656609059985:=0
noncomputable def tw6155760695025900547:=0
noncomputable def tw6160839958986945612:=0
noncomputable def tw6163263011141797856:=0
noncomputable def tw6179360406389067607:=0
noncomputable def tw6243371339956518404:=0
noncomputable def tw6257802611861165350:=0
noncomputable def tw6262004980612816159:=0
noncomputable def tw6369629947756760221:=0
noncomputable def tw6454559679033130758:=0
noncomputable def tw6477392177388758838:=0
noncomputable def tw6630419270440051478:=0
noncomputable def tw6683356824661078662:=0
noncomputable def tw669157954866498295:=0
noncomputable def tw6803641271444201586:=0
noncomputable def tw68097673804623492:=0
noncomputable def tw684879239535980958:=0
noncomputable def tw6853411817882680480:=0
noncomputable def tw6893570789375417994:=0
noncomputable def tw691983326540169097:=0
noncomputable def tw6956920823026714476:=0
noncomputable def tw6981650324505621818:=0
noncomputable def tw7023975820203981303:=0
noncomputable def tw7045478979130139589:=0
noncomputable def tw7060708156897023021:=0
noncomputable def tw7069068703909741237:=0
noncomputable def tw7251252900262813695:=0
noncomputable def tw7274988184192130788:=0
noncomputable def tw7286131828225882429:=0
noncomputable def tw7297639250308448113:=0
noncomputable def tw7355933025487810753:=0
noncomputable def tw7384598794673821001:=0
noncomputable def tw7426794767899268251:=0
noncomputable def tw7439090052975916208:=0
noncomputable def tw7465468005530737298:=0
noncomputable def tw7520248298546054323:=0
noncomputable def tw7608401650892823574:=0
noncomputable def tw7666736114500634224:=0
noncomputable def tw7734305554238395740:=0
noncomputable def tw7782852892976407975:=0
noncomputable def tw7863142854183143048:=0
noncomputable def tw7916125525476462100:=0
noncomputable def tw7916236318113900929:=0
noncomputable def tw7947534047106375275:=0
noncomputable def tw794863685555981896:=0
noncomputable def tw7966099439438885936:=0
noncomputable def tw7995979270999103932:=0
noncomputable def tw8025761453789116956:=0
noncomputable def tw8084691592523359054:=0
noncomputable def tw8134907621544063338:=0
noncomputable def tw8161119589708852974:=0
noncomputable def tw8182537049242006346:=0
noncomputable def tw8203637362223436337:=0
noncomputable def tw8244514554610749337:=0
noncomputable def tw8244828189303489956:=0
noncomputable def tw8251964532601544749:=0
noncomputable def tw8259337209544431767:=0
noncomputable def tw8291555109261509992:=0
noncomputable def tw8294936545324323156:=0
noncomputable def tw829706894076200472:=0
noncomputable def tw8348109535619300527:=0
noncomputable def tw8369312091280032509:=0
noncomputable def tw8389810529979760005:=0
noncomputable def tw8413262588643319414:=0
noncomputable def tw8468025437247608184:=0
noncomputable def tw8469249962321131216:=0
noncomputable def tw8522232955643811897:=0
noncomputable def tw8529178077568636861:=0
noncomputable def tw8538998594337340669:=0
noncomputable def tw8540863242778383991:=0
noncomputable def tw8601950423350347313:=0
noncomputable def tw8607811157387292652:=0
noncomputable def tw8656876371930626192:=0
noncomputable def tw8696672776372056105:=0
noncomputable def tw8778284980890885216:=0
noncomputable def tw8802159677353528944:=0
noncomputable def tw8811090567261716559:=0
noncomputable def tw8814354201150042278:=0
noncomputable def tw886181540242089310:=0
noncomputable def tw887680923320211769:=0
noncomputable def tw8890025596346606376:=0
noncomputable def tw8902963483958834821:=0
noncomputable def tw894647563814085005:=0
noncomputable def tw8951899822024018506:=0
noncomputable def tw9003647520118798335:=0
noncomputable def tw9016295474923233635:=0
noncomputable def tw9016908894331665454:=0
noncomputable def tw9021846227478379008:=0
noncomputable def tw904447005626398937:=0
noncomputable def tw9059026934548526972:=0
noncomputable def tw9083138074513395950:=0
noncomputable def tw9154544898481591157:=0
noncomputable def tw9207322920979648622:=0
noncomputable def tw9283343357821544635:=0
noncomputable def tw9302361300680278380:=0
noncomputable def tw9314090429370722443:=0
noncomputable def tw9364327698683108340:=0
noncomputable def tw9399385954441714010:=0
noncomputable def tw9446987622250126521:=0
noncomputable def tw9457355656864208885:=0
noncomputable def tw9467703047504894436:=0
noncomputable def tw9494658273656408224:=0
noncomputable def tw9519756598638110182:=0
noncomputable def tw9541412203648239103:=0
noncomputable def tw9563335935388135740:=0
noncomputable def tw957028249490467717:=0
noncomputable def tw9572000478913587170:=0
noncomputable def tw9626937750485310751:=0
noncomputable def tw965169366442479629:=0
noncomputable def tw9653688563446673822:=0
noncomputable def tw9672068507571499222:=0
noncomputable def tw9682352154023341269:=0
noncomputable def tw9685287581789137515:=0
noncomputable def tw9700555291684986302:=0
noncomputable def tw9812244488605409156:=0
noncomputable def tw9843170489506580927:=0
noncomputable def tw9844884098685674056:=0
noncomputable def tw984556445069586633:=0
noncomputable def tw9878486257958784655:=0
noncomputable def tw9894048350925954074:=0
noncomputable def tw9908549827921712282:=0
noncomputable def tw9923933254820521039:=0
noncomputable def tw9955273082944196781:=0
noncomputable def tw9973221221367089350:=0
noncomputable def tw9992262205082309483:=0
end PySem.W.Fast
open PySem PySem.W PyProof.Rows
set_option maxRecDepth 100000 in
set_option maxHeartbeats 0 in
theorem PySem.Challenge.cw_turnline_k81_desk_moves_holds : PySem.Challenge.rw_turnline_k81_desk_moves.Holds := by
 w_on;o_law;k_head;(case hw=>w_witness2)
 k_fill
 refine K81.walk (l:=PySem.Challenge.rw_turnline_k81_desk_moves) rfl rfl (λw h Y=>PySem.W.kIn_of Y) ?F
 case F=>
  intro w mg fa h KX G hmg
  refine' K81.all_mk KX G hmg ⟨?a1,?l1,?c1,?k1⟩ ⟨?a2,?l2,?c2,?k2⟩ ⟨?a3,?l3,?c3,?k3⟩ ⟨?a4,?l4,?c4,?k4⟩ ⟨?a5,?l5,?c5,?k5⟩ ⟨?a6,?l6,?c6,?k6⟩ ⟨?a7,?l7,?c7,?k7⟩ ⟨?a8,?l8,?c8,?k8⟩ ⟨?a9,?l9,?c9,?k9⟩ ⟨?a10,?l10,?c10,?k10⟩ ⟨?a11,?l11,?c11,?k11⟩ ⟨?a12,?l12,?c12,?k12⟩ ⟨?a13,?l13,?c13,?k13⟩ ⟨?a14,?l14,?c14,?k14⟩ ⟨?a15,?l15,?c15,?k15⟩ ⟨?a16,?l16,?c16,?k16⟩ ⟨?a17,?l17,?c17,?k17⟩ ⟨?a18,?l18,?c18,?k18⟩ ⟨?a19,?l19,?c19,?k19⟩ ⟨?a20,?l20,?c20,?k20⟩ ⟨?a21,?l21,?c21,?k21⟩ ⟨?a22,?l22,?c22,?k22⟩ ⟨?a23,?l23,?c23,?k23⟩ ⟨?a24,?l24,?c24,?k24⟩ ⟨?a25,?l25,?c25,?k25⟩ ⟨?a26,?l26,?c26,?k26⟩ ⟨?a27,?l27,?c27,?k27⟩ ⟨?a28,?l28,?c28,?k28⟩ ⟨?a29,?l29,?c29,?k29⟩ ⟨?a30,?l30,?c30,?k30⟩ ⟨?a31,?l31,?c31,?k31⟩ ⟨?a32,?l32,?c32,?k32⟩ ⟨?a33,?l33,?c33,?k33⟩ ⟨?a34,?l34,?c34,?k34⟩ ⟨?a35,?l35,?c35,?k35⟩ ⟨?a36,?l36,?c36,?k36⟩ ⟨?a37,?l37,?c37,?k37⟩ ⟨?a38,?l38,?c38,?k38⟩ ⟨?a39,?l39,?c39,?k39⟩ ⟨?a40,?l40,?c40,?k40⟩ ⟨?a41,?l41,?c41,?k41⟩ ⟨?a42,?l42,?c42,?k42⟩ ⟨?a43,?l43,?c43,?k43⟩ ⟨?a44,?l44,?c44,?k44⟩ ⟨?a45,?l45,?c45,?k45⟩ ⟨?a46,?l46,?c46,?k46⟩ ⟨?a47,?l47,?c47,?k47⟩ ⟨?a48,?l48,?c48,?k48⟩ ⟨?a49,?l49,?c49,?k49⟩ ⟨?a50,?l50,?c50,?k50⟩ ?z1 ?z2 ?z3 ?z4 ?z5 ?z6 ?z7 ?z8 ?z9 ?z10 ?z11 ?z12 ?z13 ?z14 ?z15 ?z16 ?z17 ?z18 ?z19 ?ve ?xb0 ?xb1 ?xb2 ?xb3 ?xb4 ?xb5 ?xb6 ?xb7 ?xd1 ?xd2 ?xd3 ?xd4 ?xd5 ?xd6 ?xd7 ?xe1 ?xe2 ?xe3 ?xe4 ?xe5 ?xe6 ?xe7 ?nd ?ck0 ?ck1 ?ck2 ?ck3 ?dn ?d1 ?d2 ?d3 ?d4 ?d5 ?d6 ?d7 ?d8 ?d9 ?d10 ?d11 ?d12 ?d13 ?mil ?mic ?mik ?msl ?msc ?msk ?ka0 ?kb0 ?kc0 ?ka1 ?kb1 ?kc1
  case a1|l1|c1|k1|a2|l2|c2|k2|a3|l3|c3|k3|a4|l4|c4|k4|a5|l5|c5|k5|a6|l6|c6|k6|a7|l7|c7|k7|a8|l8|c8|k8|a9|l9|c9|k9|a10|l10|c10|k10|a11|l11|c11|k11|a12|l12|c12|k12|a13|l13|c13|k13|a14|l14|c14|k14|a15|l15|c15|k15|a16|l16|c16|k16|a17|l17|c17|k17|a18|l18|c18|k18|a19|l19|c19|k19|a20|l20|c20|k20|a21|l21|c21|k21|a22|l22|c22|k22|a23|l23|c23|k23|a24|l24|c24|k24|a25|l25|c25|k25|a26|l26|c26|k26|a27|l27|c27|k27|a28|l28|c28|k28|a29|l29|c29|k29|a30|l30|c30|k30|a31|l31|c31|k31|a32|l32|c32|k32|a33|l33|c33|k33|a34|l34|c34|k34|a35|l35|c35|k35|a36|l36|c36|k36|a37|l37|c37|k37|a38|l38|c38|k38|a39|l39|c39|k39|a40|l40|c40|k40|a41|l41|c41|k41|a42|l42|c42|k42|a43|l43|c43|k43|a44|l44|c44|k44|a45|l45|c45|k45|a46|l46|c46|k46|a47|l47|c47|k47|a48|l48|c48|k48|a49|l49|c49|k49|a50|l50|c50|k50|z1|z2|z3|z4|z5|z6|z7|z8|z9|z10|z11|z12|z13|z14|z15|z16|z17|z18|z19=>k_is
  (case ve=>k_is)
  (case xb0=>refine'⟨?u1,?u2,?u3,?u4,?u5,?u6,?u7,?u8,?u9⟩;(case u1=>k_is);(case u2=>k_exc);(case u3=>k_is);(case u4=>k_is);(case u5=>k_is);(case u6=>k_is);(case u7=>k_is);(case u8=>k_is);(case u9=>k_is))
  (case xb1=>refine'⟨?u1,?u2,?u3,?u4,?u5,?u6,?u7,?u8,?u9⟩;(case u1=>k_is);(case u2=>k_exc);(case u3=>k_is);(case u4=>k_is);(case u5=>k_is);(case u6=>k_is);(case u7=>k_is);(case u8=>k_is);(case u9=>k_is))
  (case xb2=>refine'⟨?u1,?u2,?u3,?u4,?u5,?u6,?u7,?u8,?u9⟩;(case u1=>k_is);(case u2=>k_exc);(case u3=>k_is);(case u4=>k_is);(case u5=>k_is);(case u6=>k_is);(case u7=>k_is);(case u8=>k_is);(case u9=>k_is))
  (case xb3=>refine'⟨?u1,?u2,?u3,?u4,?u5,?u6,?u7,?u8,?u9⟩;(case u1=>k_is);(case u2=>k_exc);(case u3=>k_is);(case u4=>k_is);(case u5=>k_is);(case u6=>k_is);(case u7=>k_is);(case u8=>k_is);(case u9=>k_is))
  (case xb4=>refine'⟨?u1,?u2,?u3,?u4,?u5,?u6,?u7,?u8,?u9⟩;(case u1=>k_is);(case u2=>k_exc);(case u3=>k_is);(case u4=>k_is);(case u5=>k_is);(case u6=>k_is);(case u7=>k_is);(case u8=>k_is);(case u9=>k_is))
  (case xb5=>refine'⟨?u1,?u2,?u3,?u4,?u5,?u6,?u7,?u8,?u9⟩;(case u1=>k_is);(case u2=>k_exc);(case u3=>k_is);(case u4=>k_is);(case u5=>k_is);(case u6=>k_is);(case u7=>k_is);(case u8=>k_is);(case u9=>k_is))
  (case xb6=>refine'⟨?u1,?u2,?u3,?u4,?u5,?u6,?u7,?u8,?u9⟩;(case u1=>k_is);(case u2=>k_exc);(case u3=>k_is);(case u4=>k_is);(case u5=>k_is);(case u6=>k_is);(case u7=>k_is);(case u8=>k_is);(case u9=>k_is))
  (case xb7=>refine'⟨?u1,?u2,?u3,?u4,?u5,?u6,?u7,?u8,?u9⟩;(case u1=>k_is);(case u2=>k_exc);(case u3=>k_is);(case u4=>k_is);(case u5=>k_is);(case u6=>k_is);(case u7=>k_is);(case u8=>k_is);(case u9=>k_is))
  (case xd1=>refine'⟨?u1,?u2⟩;(case u1=>k_is);(case u2=>k_is))
  (case xd2=>refine'⟨?u1,?u2⟩;(case u1=>k_is);(case u2=>k_is))
  (case xd3=>refine'⟨?u1,?u2⟩;(case u1=>k_is);(case u2=>k_is))
  (case xd4=>refine'⟨?u1,?u2⟩;(case u1=>k_is);(case u2=>k_is))
  (case xd5=>refine'⟨?u1,?u2⟩;(case u1=>k_is);(case u2=>k_is))
  (case xd6=>refine'⟨?u1,?u2⟩;(case u1=>k_is);(case u2=>k_is))
  (case xd7=>refine'⟨?u1,?u2⟩;(case u1=>k_is);(case u2=>k_is))
  (case xe1=>refine'⟨?u1,?u2,?u3,?u4,?u5,?u6⟩;(case u1=>k_is);(case u2=>k_is);(case u3=>k_is);(case u4=>k_is);(case u5=>k_is);(case u6=>k_is))
  (case xe2=>refine'⟨?u1,?u2,?u3,?u4,?u5,?u6⟩;(case u1=>k_is);(case u2=>k_is);(case u3=>k_is);(case u4=>k_is);(case u5=>k_is);(case u6=>k_is))
  (case xe3=>refine'⟨?u1,?u2,?u3,?u4,?u5,?u6⟩;(case u1=>k_is);(case u2=>k_is);(case u3=>k_is);(case u4=>k_is);(case u5=>k_is);(case u6=>k_is))
  (case xe4=>refine'⟨?u1,?u2,?u3,?u4,?u5,?u6⟩;(case u1=>k_is);(case u2=>k_is);(case u3=>k_is);(case u4=>k_is);(case u5=>k_is);(case u6=>k_is))
  (case xe5=>refine'⟨?u1,?u2,?u3,?u4,?u5,?u6⟩;(case u1=>k_is);(case u2=>k_is);(case u3=>k_is);(case u4=>k_is);(case u5=>k_is);(case u6=>k_is))
  (case xe6=>refine'⟨?u1,?u2,?u3,?u4,?u5,?u6⟩;(case u1=>k_is);(case u2=>k_is);(case u3=>k_is);(case u4=>k_is);(case u5=>k_is);(case u6=>k_is))
  (case xe7=>refine'⟨?u1,?u2,?u3,?u4,?u5,?u6⟩;(case u1=>k_is);(case u2=>k_is);(case u3=>k_is);(case u4=>k_is);(case u5=>k_is);(case u6=>k_is))
  (case nd=>decide)
  (case ck0=>k_is)
  (case ck1=>k_is)
  (case ck2=>k_is)
  (case ck3=>k_is)
  (case dn=>first |k_is |rfl |decide)
  (case d1=>first |k_is |rfl |decide)
  (case d2=>first |k_is |rfl |decide)
  (case d3=>first |k_is |rfl |decide)
  (case d4=>first |k_is |rfl |decide)
  (case d5=>first |k_is |rfl |decide)
  (case d6=>first |k_is |rfl |decide)
  (case d7=>first |k_is |rfl |decide)
  (case d8=>first |k_is |rfl |decide)
  (case d9=>first |k_is |rfl |decide)
  (case d10=>first |k_is |rfl |decide)
  (case d11=>first |k_is |rfl |decide)
  (case d12=>first |k_is |rfl |decide)
  (case d13=>first |k_is |rfl |decide)
  (case mil=>first |k_is |rfl |decide)
  (case mic=>first |k_is |rfl |decide)
  (case mik=>first |k_is |rfl |decide)
  (case msl=>first |k_is |rfl |decide)
  (case msc=>first |k_is |rfl |decide)
  (case msk=>first |k_is |rfl |decide)
  (case ka0=>first |k_is |rfl |decide)
  (case kb0=>first |k_is |rfl |decide)
  (case kc0=>first |k_is |rfl |decide)
  (case ka1=>first |k_is |rfl |decide)
  (case kb1=>first |k_is |rfl |decide)
  (case kc1=>first |k_is |rfl |decide)

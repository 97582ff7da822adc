import PyProof.Rows.All
import Wide.All
import OpenK.AllK
import Wide.FinOn
import PyProof.EqAt
import PyProof.EqKinds
import PyProof.TupleCall
import PyProof.CompFree
import PyProof.EvalArms
import KE.BitLaws
import OpenK.KOwn
import KE.KIsAll
import PyProof.ExcArgsOwn
import PyProof.IsiH_list
import PyProof.NsDelKeeps
import PyProof.ExcAttrAll.ValueError
import PyProof.ExcBaseAll.ValueError
import PyProof.ZipIter
import PyProof.Rows.SumAny
import KE.LcSums
import PyProof.SetRoads
import PyProof.Rows.SetFrom
import KE.KSetDisp
import PyProof.DictIter
import PyProof.DictRoadsH
import PyProof.Rows.TupDisplay
import PyProof.FString
import PyProof.FactsAll.list_1
import PyProof.CollectWalk
import PyProof.StrWalks
import PyProof.StrLawsTight
import PyProof.StrLawsChain
import PyProof.StrLawsIn
import PyProof.StrCalls2
import PyProof.StrBlockG
import PyProof.SliceStr2
import KE.KIntText
import PyProof.CollectIter
import PyProof.Walks
import PyProof.SetKind
import PyProof.TupleKey
import PyProof.IsRules
import PyProof.SetNew
import PyProof.StrOps2
import PyProof.Rows.Range3
import PyProof.DictCompW
import PyProof.DictItems
import KE.KPairComp
import PyProof.StrLawsFirst
import PyProof.Rows.StrLawsPart
import PyProof.MeetsStr
import PyProof.FactsAll.str_6
import PyProof.SeqI3
import KE.KDictSum
import PyProof.Rows.SeqMore
import PySem.Challenge.RW_turnline_k82_desk_refuses
noncomputable abbrev aa:=@List.length_map
noncomputable abbrev ae:=@PySem.wpAny_bind
noncomputable abbrev af:=@List.getElem?_eq_some_iff
noncomputable abbrev ag:=@PySem.Str.length_append
noncomputable abbrev ah:=@List.getElem?_map
noncomputable abbrev aj:=@PySem.Heap.get?_push_of_some
noncomputable abbrev ak:=@if_neg
noncomputable abbrev ao:=@PySem.wpAny_pure
noncomputable abbrev aq:=@List.mem_cons_of_mem
noncomputable abbrev ar:=@PySem.Heap.lt_size
noncomputable abbrev au:=@List.mem_cons_self
noncomputable abbrev av:=@if_pos
noncomputable abbrev aw:=@Nat.le_refl
noncomputable abbrev ax:=@Bool.false_ne_true
noncomputable abbrev ay:=@List.mem_cons
noncomputable abbrev az:=@PySem.F.excBase_ValueError
noncomputable abbrev aA:=@List.mem_map
noncomputable abbrev aB:=@List.mem_of_getElem?
noncomputable abbrev aC:=@List.map_append
noncomputable abbrev aD:=@Nat.ne_of_lt
noncomputable abbrev aE:=@PySem.sizeLine_eq
noncomputable abbrev aF:=@List.mem_append_right
noncomputable abbrev aG:=@List.length_append
noncomputable abbrev aH:=@List.length_cons
noncomputable abbrev aI:=@List.length_take
noncomputable abbrev aJ:=@List.size_toArray
noncomputable abbrev aK:=@Array.length_toList
noncomputable abbrev aL:=@List.mem_append
noncomputable abbrev aM:=@PySem.Heap.get?_push_size
noncomputable abbrev aN:=@List.map_cons
noncomputable abbrev aO:=@List.getElem?_eq_getElem
noncomputable abbrev aP:=@Nat.lt_of_lt_of_le
noncomputable abbrev aQ:=@PySem.W.mg_none_of
noncomputable abbrev aR:=@PySem.wpAny_mono
noncomputable abbrev aS:=@PySem.F.plainAttrs_str
noncomputable abbrev aT:=@Nat.le_trans
noncomputable abbrev aU:=@Classical.byContradiction
noncomputable abbrev aV:=@Nat.zero_le
noncomputable abbrev aW:=@List.not_mem_nil
noncomputable abbrev aX:=@Bool.false_eq_true
noncomputable abbrev aY:=@List.map_map
noncomputable abbrev aZ:=@Option.some.inj
noncomputable abbrev ba:=@List.getD_eq_getElem?_getD
noncomputable abbrev bc:=@PySem.wpAny_holding
noncomputable abbrev bf:=@List.getElem?_append_left
noncomputable abbrev bg:=@PySem.F.slot_str_split
noncomputable abbrev bh:=@List.take_of_length_le
noncomputable abbrev bj:=@PySem.F.plainAttrs_list
noncomputable abbrev bo:=@List.take_length
noncomputable abbrev bp:=@List.length_drop
noncomputable abbrev bq:=@List.getElem?_append_right
noncomputable abbrev br:=@Array.getElem?_eq_some_iff
noncomputable abbrev bt:=@Array.getElem?_eq_getElem
noncomputable abbrev bu:=@decide_eq_false
noncomputable abbrev bw:=@List.lookup_cons
noncomputable abbrev bx:=@List.take_add_one
noncomputable abbrev bz:=@PySem.boot_len
noncomputable abbrev bA:=@Nat.lt_of_le_of_lt
noncomputable abbrev bB:=@Int.emod_lt_of_pos
noncomputable abbrev bC:=@PySem.PassesOwn.never
noncomputable abbrev bD:=@List.length_filter_le
noncomputable abbrev bE:=@Array.getElem?_toList
noncomputable abbrev bF:=@congrArg
noncomputable abbrev bG:=@List.mem_range
noncomputable abbrev bH:=@PySem.W.kia_one
noncomputable abbrev bI:=@List.nodup_cons
noncomputable abbrev bJ:=@List.mem_filter
noncomputable abbrev bK:=@Int.emod_nonneg
noncomputable abbrev bL:=@List.mem_singleton
noncomputable abbrev bM:=@List.length_dropLast
noncomputable abbrev bN:=@Bool.and_eq_true
noncomputable abbrev bO:=@Nat.mul_assoc
noncomputable abbrev bP:=@PySem.F.type_str_split
noncomputable abbrev bQ:=@Bool.eq_false_iff
noncomputable abbrev bR:=@List.toList_toArray
noncomputable abbrev bS:=@List.append_nil
noncomputable abbrev bT:=@Bool.eq_iff_iff
noncomputable abbrev bU:=@PySem.wpAny_truthy_bool
noncomputable abbrev bV:=@PySem.F.called_set
noncomputable abbrev bW:=@Nat.le_add_right
noncomputable abbrev bX:=@List.getElem?_drop
noncomputable abbrev bY:=@List.all_eq_true
noncomputable abbrev bZ:=@PySem.F.type_list_append
noncomputable abbrev b8:=@PySem.F.slot_list_append
noncomputable abbrev b9:=@or_false
noncomputable abbrev cb:=@if_false
noncomputable abbrev cc:=@of_decide_eq_true
noncomputable abbrev cf:=@List.length_eq_zero_iff
noncomputable abbrev cg:=@PySem.mem_of_lookup
noncomputable abbrev cj:=@List.filterMap_cons
noncomputable abbrev ck:=@PySem.F.type_str_join
noncomputable abbrev cm:=@PySem.F.slot_str_join
noncomputable abbrev cn:=@PySem.wpAny_standAt
noncomputable abbrev cp:=@PyProof.Rows.boot_isinstance
noncomputable abbrev cq:=@decide_eq_true_eq
noncomputable abbrev cu:=@Nat.le_of_lt
noncomputable abbrev cw:=@List.pairwise_map
noncomputable abbrev cx:=@PySem.W.mg_of
noncomputable abbrev cy:=@PySem.StrLaws.join_split
noncomputable abbrev cz:=@Nat.lt_irrefl
noncomputable abbrev cA:=@List.getElem?_take_of_lt
noncomputable abbrev cB:=@Ne.symm
noncomputable abbrev cC:=@List.filter_cons_of_neg
noncomputable abbrev cD:=@List.eq_nil_of_length_eq_zero
noncomputable abbrev cE:=@of_decide_eq_false
noncomputable abbrev cF:=@decide_eq_true_iff
noncomputable abbrev cG:=@beq_iff_eq
noncomputable abbrev cH:=@Option.map_eq_some_iff
noncomputable abbrev cI:=@PySem.wpAny_getItem_str_slice
noncomputable abbrev cJ:=@List.take_append_drop
noncomputable abbrev cK:=@List.mem_iff_getElem?
noncomputable abbrev cL:=@PyProof.Rows.callWith_type1
noncomputable abbrev cM:=@List.nodup_append
noncomputable abbrev cN:=@List.append_assoc
noncomputable abbrev cO:=@PySem.wpAny_Call_Name_kw
noncomputable abbrev cP:=@decide_eq_true
noncomputable abbrev cQ:=@List.mem_iff_getElem
noncomputable abbrev cR:=@List.mem_append_left
noncomputable abbrev cS:=@PySem.wpAny_setState_of
noncomputable abbrev cT:=@List.mem_of_find?_eq_some
noncomputable abbrev cU:=@Nat.lt_succ_iff_lt_or_eq
noncomputable abbrev cV:=@List.map_take
noncomputable abbrev cW:=@List.map_drop
noncomputable abbrev cX:=@List.Pairwise.imp_of_mem
noncomputable abbrev cY:=@PySem.Heap.size_push
noncomputable abbrev cZ:=@PySem.codeAny_mono
noncomputable abbrev dc:=@PySem.Txt.slice_le
noncomputable abbrev de:=@List.filter_cons_of_pos
noncomputable abbrev df:=@if_true
noncomputable abbrev dg:=@PySem.SetTable.toList_insertAt
noncomputable abbrev dh:=@List.nodup_nil
noncomputable abbrev di:=@List.length_range
noncomputable abbrev dj:=@beq_self_eq_true
noncomputable abbrev dq:=@List.perm_middle
noncomputable abbrev dt:=@List.any_eq_true
noncomputable abbrev du:=@List.any_cons
noncomputable abbrev dw:=@PySem.wpAny_pyIter_list
noncomputable abbrev dy:=@Nat.pow_le_pow_right
noncomputable abbrev dz:=@List.mem_of_mem_drop
noncomputable abbrev dA:=@List.getElem?_set_ne
noncomputable abbrev dB:=@Array.mem_toList_iff
noncomputable abbrev dC:=@beq_eq_false_iff_ne
noncomputable abbrev dD:=@List.length_reverse
noncomputable abbrev dE:=@PySem.typeIs_str
noncomputable abbrev dF:=@PySem.call_meets
noncomputable abbrev dG:=@Nat.sub_self
noncomputable abbrev dH:=@Nat.pow_succ
noncomputable abbrev dQ:=@List.map_nil
noncomputable abbrev dU:=@PyProof.Rows.F.plain_set_update_loop
noncomputable abbrev dW:=@PySem.W.callWith_K
noncomputable abbrev dX:=@PySem.F.slot_str_partition
noncomputable abbrev dY:=@List.mem_filterMap
noncomputable abbrev dZ:=@PySem.wpAny_specialOf
noncomputable abbrev ef:=@PySem.wpAny_passesOwn
noncomputable abbrev eh:=@PySem.post_val_or_str
noncomputable abbrev ei:=@List.pairwise_iff_getElem
noncomputable abbrev ej:=@List.getLastD_eq_getLast?
noncomputable abbrev ek:=@List.getElem?_zip_eq_some
noncomputable abbrev el:=@List.drop_eq_getElem_cons
noncomputable abbrev eu:=@Decidable.byContradiction
noncomputable abbrev ez:=@Nat.lt_succ_of_lt
noncomputable abbrev eA:=@PySem.wpAny_Constant_str
noncomputable abbrev eB:=@PySem.F.args_str_split_2
noncomputable abbrev eC:=@Option.isSome_iff_exists
noncomputable abbrev eD:=@List.length_erase_of_mem
noncomputable abbrev eE:=@List.all_cons
noncomputable abbrev eF:=@PySem.tupleKind_room_in1
noncomputable abbrev eG:=@PySem.F.entry_str_split
noncomputable abbrev eI:=@Nat.lt_succ_self
noncomputable abbrev eJ:=@List.getElem_mem
set_option Elab.async false
set_option linter.all false
set_option maxRecDepth 100000
namespace L2
open PySem PySem.Spec PyProof.Rows
noncomputable abbrev Key:=Sum Int Str
noncomputable def yb:Key->Value->Bool
 |.inl k,v=>Value.isInt k v
 |.inr x,v=>Value.isStrOf x v
noncomputable def QY (w:World):Key->Int
 |.inl k=>hashInt k
 |.inr x=>hashStr w x
theorem hG:∀ {k:Key}{v:Value},yb k v=true->(∃ i t,k=Sum.inl i/\v=Value.int i t)\/(∃ x t,k=Sum.inr x/\v=Value.str x t)
 |.inl i,v,h=>by
  obtain⟨t,e⟩:=Value.isInt_shape (k:=i) (v:=v) h
  exact .inl ⟨i,t,rfl,e⟩
 |.inr x,v,h=>by
  obtain⟨t,e⟩:=Value.isStrOf_shape (x:=x) (v:=v) h
  exact .inr ⟨x,t,rfl,e⟩
theorem Eb (i:Int)(t:Tok):yb (.inl i) (.int i t)=true:=by simp[yb,Value.isInt]
theorem Ea (x:Str)(t:Tok):yb (.inr x) (.str x t)=true:=by simp[yb,Value.isStrOf]
theorem Jm (a b:Int):decide ((Sum.inl a:Key)=Sum.inl b)=(a==b):=by
 by_cases e:a=b
 ·subst e;simp
 ·have h:¬(Sum.inl a:Key)=Sum.inl b:=λq=>e (Sum.inl.inj q)
  rw[bu h]
  exact(dC.mpr e).symm
theorem Jj (a b:Str):decide ((Sum.inr a:Key)=Sum.inr b)=decide (a=b):=by
 by_cases e:a=b
 ·subst e;simp
 ·have h:¬(Sum.inr a:Key)=Sum.inr b:=λq=>e (Sum.inr.inj q)
  rw[bu h,bu e]
theorem Jl (a:Int)(b:Str):decide ((Sum.inl a:Key)=Sum.inr b)=false:=bu (λq=>nomatch q)
theorem Jk (a:Str)(b:Int):decide ((Sum.inr a:Key)=Sum.inl b)=false:=bu (λq=>nomatch q)
noncomputable def gq (prog:Program)(w:World):PySem.KeyKind prog w Key where
 is:=yb
 hash:=QY w
 inj:=λv a b ha hb=>by
  rcases hG ha with⟨i,t,rfl,rfl⟩|⟨x,t,rfl,rfl⟩
  ·rcases hG hb with⟨j,u,rfl,e⟩|⟨y,u,rfl,e⟩
   ·injection e with e1 _;rw[e1]
   ·exact nomatch e
  ·rcases hG hb with⟨j,u,rfl,e⟩|⟨y,u,rfl,e⟩
   ·exact nomatch e
   ·injection e with e1 _;rw[e1]
 byValue:=λk v h=>by
  rcases hG h with⟨i,t,rfl,rfl⟩|⟨x,t,rfl,rfl⟩<;>rfl
 pyHash:=λhv h=>by
  rcases hG hv with⟨i,t,rfl,rfl⟩|⟨x,t,rfl,rfl⟩
  ·exact wpAny_pyHash_int h
  ·exact wpAny_pyHash_str h
 eqBool:=λhu hv h=>by
  rcases hG hu with⟨i,t,rfl,rfl⟩|⟨x,t,rfl,rfl⟩
  ·rcases hG hv with⟨j,u,rfl,rfl⟩|⟨y,u,rfl,rfl⟩
   ·rw[Jm]at h;exact wpAny_eqBool_int h
   ·rw[Jl]at h;exact SeqAt.EqAt.int_str i t y u _ _ _ _ h
  ·rcases hG hv with⟨j,u,rfl,rfl⟩|⟨y,u,rfl,rfl⟩
   ·rw[Jk]at h;exact SeqAt.EqAt.str_int x t j u _ _ _ _ h
   ·rw[Jj]at h;exact wpAny_eqBool_str h
 «strs» :=λk x t v h=>by
  rcases hG h with⟨i,u,rfl,e⟩|⟨y,u,rfl,e⟩
  ·exact nomatch e
  ·injection e with e1 _
   subst e1
   cases v<;>rfl
theorem AA (prog:Program)(w:World)(i:Int)(t:Tok):(gq prog w).is (.inl i) (.int i t)=true:=Eb i t
theorem Az (prog:Program)(w:World)(x:Str)(t:Tok):(gq prog w).is (.inr x) (.str x t)=true:=Ea x t
inductive V where
 |non |bl (b:Bool)|int (i:Int)|str (x:Str)|byt (b:Array UInt8)|flt (b:UInt64)|ref (a:Addr)|ty (n:String)
 deriving DecidableEq
noncomputable def RelV:V->Value->Prop
 |.non,u=>u=Value.none
 |.bl b,u=>u=Value.bool b
 |.int i,u=>∃ t,u=Value.int i t
 |.str x,u=>∃ t,u=Value.str x t
 |.byt b,u=>∃ t,u=Value.bytes b t
 |.flt b,u=>∃ t,u=Value.float b t
 |.ref a,u=>u=Value.ref a
 |.ty n,u=>u=Value.type n
noncomputable abbrev Vals:List V->List Value->Prop:=Paired RelV
variable {us:List Value}
theorem Vals.length {xs:List V}(r:Vals xs us):xs.length=us.length:=Paired.length r
theorem Vals.get:∀ {xs:List V}{us:List Value}{i:Nat}{x:V},Vals xs us->xs[i]? = some x->∃ u,us[i]? = some u/\RelV x u
 |_,_,_,_,.nil,e=>by simp at e
 |_,_,0,_,.cons r _,e=>by simp at e;subst e;exact⟨_,rfl,r⟩
 |_,_,i+1,x,.cons _ t,e=>by
  obtain⟨u,h1,h2⟩:=Vals.get (i:=i) (x:=x) t (by simpa using e)
  exact⟨u,by simpa using h1,h2⟩
theorem Vals.append:∀ {xs ys:List V}{us ws:List Value},Vals xs us->Vals ys ws->Vals (xs++ys) (us++ws)
 |_,_,_,_,.nil,s=>s
 |_,_,_,_,.cons r t,s=>.cons r (Vals.append t s)
theorem Vals.take:∀ {xs:List V}{us:List Value} (n:Nat),Vals xs us->Vals (xs.take n) (us.take n)
 |_,_,0,_=>.nil
 |_,_,_+1,.nil=>.nil
 |_,_,n+1,.cons r t=>.cons r (Vals.take n t)
theorem Vals.drop:∀ {xs:List V}{us:List Value} (n:Nat),Vals xs us->Vals (xs.drop n) (us.drop n)
 |_,_,0,r=>r
 |_,_,_+1,.nil=>.nil
 |_,_,n+1,.cons _ t=>Vals.drop n t
noncomputable def xq:Option V->Option Value->Prop
 |some v,some u=>RelV v u
 |none,none=>True
 |_,_=>False
noncomputable def KV {κ:Type} :List (κ×V)->List (κ×Value)->Prop:=Paired λ(p:κ×V) (q:κ×Value)=>p.1=q.1/\RelV p.2 q.2
noncomputable def kV:Key->V
 |.inl i=>.int i
 |.inr x=>.str x
inductive HO where
 /-- a list -/
 |lst (xs:List V)
 /-- a tuple (never changes) -/
 |tup (xs:List V)
 /-- a dict JW keys are ints and texts;one JW keys are tuples of ints and texts (the empty one is both) -/
 |dK (kvs:List (Key×V))|dT (kvs:List (List Key×V))
 /-- a set of ints:its members,its size -/
 |set (S:Int->Bool) (n:Nat)
 /-- an instance of the class at C,its dict at dx,its attributes -/
 |ins (C dx:Addr) (fs:List (Str×V))
 /-- the dict of the instance at x -/
 |own (x:Addr)
 /-- the dict of an exception -/
 |xd (fs:List (Str×V))
 /-- a bound method,f of x -/
 |met (f x:Addr)
 /-- a range object lo,lo+1,.. below hi -/
 |rng (lo hi:Int)
 /-- a J5 Xg is known to the object (the MS;a dict while a loop walks it):read,never written while it is so -/
 |frz (o:Obj) (u:HO)
 /-- a code KA table -/
 |tbl (ps:Array Value)
 /-- any other J5,by JX is true of its one object (a def of Xd own:nQ a S n:=HO.ext λh=>..) -/
 |ext (φ:Heap->Prop)
noncomputable abbrev Hp:=Addr->Option HO
noncomputable def upd (H:Hp)(a:Addr)(o:HO):Hp:=λb=>if b=a then some o else H b
variable {H:Hp}{a:Addr}{o:HO}
theorem eO:upd H a o a=some o:=by unfold upd;rw[av rfl]
variable {b:Addr}
theorem fw (h:b≠a):upd H a o b=H b:=by unfold upd;rw[ak h]
theorem qC {u:HO} :upd (upd H a o) a u=upd H a u:=by
 funext b;unfold upd;split<;>rfl
theorem Cu {u:HO}(h:H a=some o)(h':H b=some u)(d:o≠u):a≠b:=by
 intro e;subst e;rw[h]at h';exact d (aZ h')
theorem ft (h:H a=some o)(h':H b=none):a≠b:=by
 intro e;subst e;rw[h]at h';cases h'
section
variable (P:Program)(w:World)
noncomputable def jv (H:Hp)(h:Heap)(a:Addr):HO->Prop
 |.lst xs=>xs.length<=sizeLine/\∃ (its:List Value) (n:Nat),Vals xs its/\h.get? a=some {cls:=.type "list",data:=.seq its.toArray n}
 |.tup xs=>xs.length<=sizeLine/\∃ its:List Value,Vals xs its/\IsTup h a its.toArray
 |.dK kvs=>kvs.length<=sizeLine/\(a==sysModules)=false/\∃ vs,KV kvs vs/\h.DictOf (gq P w) a vs
 |.dT kvs=>kvs.length<=sizeLine/\(a==sysModules)=false/\∃ xs:List (List Key×Addr×Value),
   Paired (λ(p:List Key×V) (q:List Key×Addr×Value)=>p.1=q.1/\H q.2.1=some (.tup (p.1.map kV))/\RelV p.2 q.2.2) kvs xs/\
   ∃ o es ep,h.get? a=some o/\o.ExactDict/\o.data = .dict es ep/\es.toList=xs.map (entryOfKey (tupleKind (gq P w)))/\(xs.map (·.1)).Nodup
 |.set S n=>h.SetOf (intKind P w) a S n
 |.ins C dx fs=>H dx=some (.own a)/\fs.length<=1000/\dx≠a/\h.get? a=some (PySem.W.instObj C dx)/\
   ∃ mA,h.Ns1 dx mA/\(∀ f,xq (fs.lookup f) (mA f))/\PySem.Within mA (fs.map (·.1))
 |.own _=>∃ o,h.get? a=some o
 |.xd fs=>∃ mA,h.Ns1 a mA/\∀ f,xq (fs.lookup f) (mA f)
 |.rng lo hi=>∃ t u v,h.get? a=some {cls:=.type "range",data:=.fields #[.int lo t,.int hi u,.int 1 v]}
 |.frz o u=>h.get? a=some o/\jv H h a u
 |.tbl ps=>h.get? a=some {cls:=.none,data:=.fields ps}
 |.met f x=>h.get? a=some (PySem.W.methodObj (.ref f) (.ref x))
 |.ext φ=>φ h/\(∃ o,h.get? a=some o)/\∀ h1 h2:Heap,φ h1->(∀ o,h1.get? a=some o->h2.get? a=some o)->φ h2
noncomputable def HOk (H:Hp)(h:Heap):Prop:=∀ a o,H a=some o->jv P w H h a o
end
section
variable {P:Program}{w:World}{H H':Hp}{h h':Heap}{a:Addr}{o:HO}
theorem jv.lt (x:jv P w H h a o):a<h.objs.size:=by
 cases o with
 |lst xs=>obtain⟨_,_,_,_,e⟩:=x;exact ar e
 |tup xs=>obtain⟨_,_,_,p⟩:=x;exact p.lt
 |dK kvs=>obtain⟨_,_,_,_,o,_,_,e,_⟩:=x;exact ar e
 |dT kvs=>obtain⟨_,_,_,_,o,_,_,e,_⟩:=x;exact ar e
 |set S n=>obtain⟨o,_,_,_,e,_⟩:=x;exact ar e
 |ins C dx fs=>obtain⟨_,_,_,e,_⟩:=x;exact ar e
 |own y=>obtain⟨_,e⟩:=x;exact ar e
 |xd fs=>obtain⟨_,⟨_,_,_,e,_⟩,_⟩:=x;exact ar e
 |rng lo hi=>obtain⟨_,_,_,e⟩:=x;exact ar e
 |frz ob u=>obtain⟨e,_⟩:=x;exact ar e
 |tbl ps=>exact ar (show h.get? a=some _ from x)
 |met f y=>exact ar (show h.get? a=some _ from x)
 |ext φ=>obtain⟨_,⟨_,e⟩,_⟩:=x;exact ar e
theorem Paired.KL {α β:Type}{F G:α->β->Prop} :∀ {l₁:List α}{l₂:List β},Paired F l₁ l₂->(∀ a b,F a b->G a b)->Paired G l₁ l₂
 |_,_,.nil,_=>.nil
 |_,_,.cons r t,f=>.cons (f _ _ r) (Paired.KL t f)
theorem jv.rf (x:jv P w H h a o)(k:∀ b u,(b=a\/H b=some (.own a))->h.get? b=some u->h'.get? b=some u)
  (ho:∀ b,H b=some (.own a)->H' b=some (.own a)) (ht:∀ b xs,H b=some (.tup xs)->H' b=some (.tup xs)):jv P w H' h' a o:=by
 induction o with
 |lst xs=>obtain⟨z,its,n,r,e⟩:=x;exact⟨z,its,n,r,k _ _ (.inl rfl) e⟩
 |tup xs=>obtain⟨z,its,r,ob,e,c⟩:=x;exact⟨z,its,r,ob,k _ _ (.inl rfl) e,c⟩
 |dK kvs=>obtain⟨z,y,vs,r,ob,es,ep,e,c⟩:=x;exact⟨z,y,vs,r,ob,es,ep,k _ _ (.inl rfl) e,c⟩
 |dT kvs=>
  obtain⟨z,y,xs,r,ob,es,ep,e,c⟩:=x
  exact⟨z,y,xs,Paired.KL r λp q z=>⟨z.1,ht _ _ z.2.1,z.2.2⟩,ob,es,ep,k _ _ (.inl rfl) e,c⟩
 |set S n=>obtain⟨ob,es,ep,t,e,c⟩:=x;exact⟨ob,es,ep,t,k _ _ (.inl rfl) e,c⟩
 |ins C dx fs=>
  obtain⟨d,z,ne,e,mA,⟨od,es,ep,e2,c⟩,r⟩:=x
  exact⟨ho _ d,z,ne,k _ _ (.inl rfl) e,mA,⟨od,es,ep,k _ _ (.inr d) e2,c⟩,r⟩
 |own y=>obtain⟨ob,e⟩:=x;exact⟨ob,k _ _ (.inl rfl) e⟩
 |xd fs=>obtain⟨mA,⟨od,es,ep,e,c⟩,r⟩:=x;exact⟨mA,⟨od,es,ep,k _ _ (.inl rfl) e,c⟩,r⟩
 |rng lo hi=>obtain⟨t,u,v,e⟩:=x;exact⟨t,u,v,k _ _ (.inl rfl) e⟩
 |frz ob u ih=>obtain⟨e,q⟩:=x;exact⟨k _ _ (.inl rfl) e,ih q⟩
 |tbl ps=>
  have e:h.get? a=some {cls:=.none,data:=.fields ps} :=x
  show h'.get? a=some {cls:=.none,data:=.fields ps}
  exact k a _ (.inl rfl) e
 |met f y=>
  have e:h.get? a=some (PySem.W.methodObj (.ref f) (.ref y)):=x
  show h'.get? a=some (PySem.W.methodObj (.ref f) (.ref y))
  exact k a _ (.inl rfl) e
 |ext φ=>obtain⟨p,⟨o,e⟩,st⟩:=x;exact⟨st _ _ p λo q=>k _ _ (.inl rfl) q,⟨o,k _ _ (.inl rfl) e⟩,st⟩
theorem HOk.lt (x:HOk P w H h)(e:H a=some o):a<h.objs.size:=(x a o e).lt
theorem HOk.fresh (x:HOk P w H h)(e:h.objs.size<=a):H a=none:=by
 cases q:H a with
 |none=>rfl
 |some u=>exact absurd (aP (x.lt q) e) (cz _)
theorem HOk.kept (x:HOk P w H h)(k:∀ b u,h.get? b=some u->h'.get? b=some u):HOk P w H h':=λa o e=>
 (x a o e).rf (λb u _ q=>k b u q) (λ_ q=>q) λ_ _ q=>q
theorem HOk.laid (x:HOk P w H h)(k:∀ b u,h.get? b=some u->h'.get? b=some u)(hp:h.objs.size<=a)(new:jv P w (upd H a o) h' a o):HOk P w (upd H a o) h':=λb u e=>by
 have hn:=x.fresh hp
 by_cases hb:b=a
 ·subst hb;rw[eO]at e;cases e;exact new
 ·rw[fw hb]at e
  exact(x b u e).rf (λc v _ q=>k c v q) (λc q=>by rw[fw (ft q hn)];exact q) λc xs q=>by rw[fw (ft q hn)];exact q
end
noncomputable def Rd (H:Hp)(a:Addr)(u:HO):Prop:=H a=some u\/∃ o,H a=some (.frz o u)
variable {P:Program}{w:World}{h:Heap}
theorem Rd.ok {u:HO}(r:Rd H a u)(x:HOk P w H h):jv P w H h a u:=by
 rcases r with r |⟨o,r⟩
 ·exact x a u r
 ·obtain⟨_,q⟩:=x a _ r
  exact q
noncomputable def Mut:Option HO->Prop
 |some (.lst _)=>True
 |some (.dK _)=>True
 |some (.dT _)=>True
 |some (.set _ _)=>True
 |some (.ins _ _ _)=>True
 |some (.ext _)=>True
 |_=>False
section
variable {P:Program}{w:World}{H:Hp}{h h':Heap}{x e:Addr}{o':HO}
theorem HOk.write (ok:HOk P w H h)(mu:Mut (H x))(he:e=x\/H e=some (.own x))(k:∀ b u,b≠e->h.get? b=some u->h'.get? b=some u)(heo:∃ u,h'.get? e=some u)
  (new:jv P w (upd H x o') h' x o'):HOk P w (upd H x o') h':=λb u q=>by
 have KD:∀ c y,H c=some (.own y)->c≠x:=λc y r z=>by subst z;rw[r]at mu;exact mu
 have QC:∀ c xs,H c=some (.tup xs)->c≠x:=λc xs r z=>by subst z;rw[r]at mu;exact mu
 by_cases hb:b=x
 ·subst hb;rw[eO]at q;cases q;exact new
 ·rw[fw hb]at q
  by_cases hbe:b=e
  ·have q':H b=some (.own x):=by
    rcases he with z |z
    ·exact absurd (hbe.trans z) hb
    ·rw[hbe];exact z
   rw[q]at q';cases q'
   obtain⟨v,hv⟩:=heo
   exact⟨v,by rw[hbe];exact hv⟩
  ·refine(ok b u q).rf (λc v hc r=>k c v ?_ r) (λc r=>by rw[fw (KD c b r)];exact r) λc xs r=>by rw[fw (QC c xs r)];exact r
   rcases hc with rfl |hc
   ·exact hbe
   ·rintro rfl
    rcases he with z |z
    ·exact KD c b hc z
    ·rw[hc]at z;cases z;exact hb rfl
end
structure Un (fs ex:List Addr)(H H':Hp)(h h':Heap):Prop where
 keep:∀ b o,h.get? b=some o->H b=none->b∉fs->b∉ex->h'.get? b=some o
 slot:∀ b o,h.get? b=some o->H b=none->b∈fs->b∉ex->∃ sl,h'.get? b=some {o with slots:=sl}
 free:∀ b o,h.get? b=some o->H b=none->b∉ex->H' b=none
 there:∀ b o,h.get? b=some o->b∉ex->∃ o',h'.get? b=some o'
 q9:∀ b xs,H b=some (.tup xs)->H' b=some (.tup xs)
 qR:∀ b o u,H b=some (.frz o u)->H' b=some (.frz o u)
 ra:∀ b ps,H b=some (.tbl ps)->∃ more,H' b=some (.tbl (ps++more))
section
variable {fs fs' ex ex':List Addr}{H H1 H2:Hp}{h h1 h2 h':Heap}{a x e:Addr}{o:HO}
theorem Un.any (u:Un fs ex H H1 h h1){ob:Obj}(q:h.get? b=some ob)(n:H b=none)(hx:b∉ex):∃ sl,h1.get? b=some {ob with slots:=sl} :=by
 by_cases hb:b∈fs
 ·exact u.slot b ob q n hb hx
 ·exact⟨ob.slots,u.keep b ob q n hb hx⟩
theorem Un.trans (a:Un fs ex H H1 h h1)(b:Un fs ex H1 H2 h1 h2):Un fs ex H H2 h h2 where
 keep:=λc ob q n hc hx=>b.keep c ob (a.keep c ob q n hc hx) (a.free c ob q n hx) hc hx
 slot:=λc ob q n hc hx=>by
  obtain⟨sl,e1⟩:=a.slot c ob q n hc hx
  obtain⟨sl',e2⟩:=b.slot c _ e1 (a.free c ob q n hx) hc hx
  exact⟨sl',e2⟩
 free:=λc ob q n hx=>by
  obtain⟨o',e1⟩:=a.there c ob q hx
  exact b.free c o' e1 (a.free c ob q n hx) hx
 there:=λc ob q hx=>by
  obtain⟨o',e1⟩:=a.there c ob q hx
  exact b.there c o' e1 hx
 q9:=λc xs q=>b.q9 c xs (a.q9 c xs q)
 qR:=λc ob xs q=>b.qR c ob xs (a.qR c ob xs q)
 ra:=λc ps q=>by
  obtain⟨m1,e1⟩:=a.ra c ps q
  obtain⟨m2,e2⟩:=b.ra c _ e1
  exact⟨m1++m2,by rw[e2,Array.append_assoc]⟩
theorem Un.kept (k:∀ b u,h.get? b=some u->h'.get? b=some u):Un fs ex H H h h':=
 ⟨λb ob q _ _ _=>k b ob q,λb ob q _ _ _=>⟨ob.slots,k b ob q⟩,λ_ _ _ n _=>n,λb ob q _=>⟨ob,k b ob q⟩,λ_ _ q=>q,λ_ _ _ q=>q,λ_ ps q=>⟨#[],by rw[q];simp⟩⟩
theorem Un.refl:Un fs ex H H h h:=Un.kept λ_ _ q=>q
theorem Un.laid (k:∀ b u,h.get? b=some u->h'.get? b=some u)(hp:h.objs.size<=a)(hn:H a=none):Un fs ex H (upd H a o) h h' where
 keep:=λb u q _ _ _=>k b u q
 slot:=λb u q _ _ _=>⟨u.slots,k b u q⟩
 free:=λb u q n _=>by rw[fw (aD (aP (ar q) hp))];exact n
 there:=λb u q _=>⟨u,k b u q⟩
 q9:=λb xs q=>by rw[fw (ft q hn)];exact q
 qR:=λb u xs q=>by rw[fw (ft q hn)];exact q
 ra:=λb ps q=>⟨#[],by rw[fw (ft q hn),q];simp⟩
theorem Un.write (mu:Mut (H x))(he:e=x\/H e=some (.own x))(k:∀ b u,b≠e->h.get? b=some u->h'.get? b=some u)(heo:∃ u,h'.get? e=some u):Un fs ex H (upd H x o) h h':=by
 have hx:∀ b,H b=none->b≠x:=λb n z=>by subst z;rw[n]at mu;exact mu
 have hb:∀ b,H b=none->b≠e:=λb n z=>by
  subst z
  rcases he with r |r
  ·exact hx b n r
  ·rw[n]at r;cases r
 have hm:∀ b u,H b=some u->¬Mut (some u)->b≠x:=λb u q nm z=>by subst z;rw[q]at mu;exact nm mu
 refine⟨λb u q n _ _=>k b u (hb b n) q,λb u q n _ _=>⟨u.slots,k b u (hb b n) q⟩,λb u q n _=>by rw[fw (hx b n)];exact n,λb u q _=>?_,
  λb xs q=>by rw[fw (hm b _ q λz=>z)];exact q,λb u xs q=>by rw[fw (hm b _ q λz=>z)];exact q,λb ps q=>⟨#[],by rw[fw (hm b _ q λz=>z),q];simp⟩⟩
 by_cases hbe:b=e
 ·subst hbe;exact heo
 ·exact⟨u,k b u hbe q⟩
end
noncomputable def trk (h:Heap)(H:Hp):List Addr:=(List.range h.objs.size).filter λa=>(H a).isSome
noncomputable def zq (h:Heap)(H:Hp):Heap:=PySem.W.hideAll h (trk h H)
theorem Eh (h:Heap)(H:Hp):(zq h H).objs.size=h.objs.size:=PySem.W.hideAll_size _ _
theorem Gh {o:Obj}(e:h.get? b=some o)(n:H b=none):(zq h H).get? b=some o:=
 PySem.W.hideAll_get _ e λhm=>by
  have q:(H b).isSome=true:=(bJ.mp hm).2
  rw[n]at q;simp at q
theorem Hi {o:Obj}(e:(zq h H).get? b=some o):h.get? b=some o/\H b=none:=by
 have e':h.get? b=some o:=PySem.W.of_hideAll (trk h H) e
 refine⟨e',?_⟩
 cases q:H b with
 |none=>rfl
 |some x=>
  have hm:b∈trk h H:=bJ.mpr ⟨bG.mpr (ar e'),by simp[q]⟩
  have z:(zq h H).get? b=none:=PySem.W.hideAll_none (trk h H) hm
  rw[z]at e;cases e
structure Mod (K:PySem.W.Frag)(mg:Str->Option Value)(base:Heap):Prop where
 kin:K.In base
 glob:base.Ns mainGlobals mg
 blt:∃ mb,base.Ns builtinsNs mb/\∀ x:Str,x≠ "__name__" ->mb x=bootBuiltins x
 nolimit:base.NoLimit
structure Cx where
 prog:Program
 w:World
 K:PySem.W.Frag
 mg:Str->Option Value
 base:Heap
 A:Around
 N:List Str
 s₀:Shared
 H₀:Hp
 env:Env
 outer:List Env
 stack:List Env
 ex:List Addr
 fn:Str->Bool
 calm:Bool
 pn:List (Addr×Obj)
 xe:Value->Shared->Prop
noncomputable def frs (l:List Env):List Addr:=l.filterMap (·.frame)
noncomputable abbrev Cx.fs (X:Cx):List Addr:=frs X.outer
noncomputable def Vis (sc:Scope)(x:Str):Prop:=sc.names.lookup x=some .local\/sc.names.lookup x=some .cell\/sc.names.lookup x=some .free
noncomputable def Loc (sc:Scope)(x:Str):Prop:=sc.names.lookup x=some .local\/sc.names.lookup x=some .cell
noncomputable def Look (env:Env)(h:Heap)(m:Str->Option Value)(x:Str)(u:Value):Prop:=
 (env.kindOf x=some .local/\m x=some u)\/((env.kindOf x=some .cell\/env.kindOf x=some .free)/\∃ c,env.cells.lookup x=some c/\h.IsCell c (some u))
structure Cx.Ok (X:Cx):Prop where
 mod:Mod X.K X.mg X.base
 kind:X.env.scope.kind = .function
 glob:X.env.globals=mainGlobals
 blt:X.env.builtins=builtinsNs
 above:X.s₀.heap.objs.size<=X.env.locals
 inj:∀ x y c,X.env.cells.lookup x=some c->X.env.cells.lookup y=some c->x=y
 has:∀ x,(X.env.kindOf x=some .cell\/X.env.kindOf x=some .free)->∃ c,X.env.cells.lookup x=some c
 cab:∀ x c,X.fn x=true->X.env.cells.lookup x=some c->X.s₀.heap.objs.size<=c
 hd:X.calm=true->X.A.handled=none
 frames:X.A.frames=some X.stack
 stk:X.stack=X.outer\/(X.stack=X.env::X.outer/\X.env.frame=some X.env.locals)
 exf:∀ b∈X.ex,b≠X.env.locals/\∀ x c,X.env.cells.lookup x=some c->c≠b
 bs:∀ b o,X.base.get? b=some o->X.s₀.heap.get? b=some o/\X.H₀ b=none
 bsz:X.base.objs.size<=X.s₀.heap.objs.size
 BA:∀ b o,X.base.get? b=some o->b∉X.ex
 El:∀ b∈X.ex,b∉X.fs
 su:X.s₀.heap.FunFrames X.base X.outer
 frf:∀ b∈X.fs,X.H₀ b=none
structure Inv (X:Cx)(pins:List (Addr×Obj))(σ:List (Option V))(H:Hp)(s:Shared):Prop where
 ok:X.Ok
 os:s.os=X.s₀.os
 bare:AllBare s.gens
 base:Un X.fs X.ex X.H₀ H X.s₀.heap s.heap
 loc:∃ m,s.heap.Ns X.env.locals m/\∀ (i:Nat) (x:Str) (v:V),X.N[i]? = some x->σ[i]? = some (some v)->Vis X.env.scope x->∃ u,RelV v u/\Look X.env s.heap m x u
 cell:∀ x c,X.env.cells.lookup x=some c->∃ v,s.heap.IsCell c v
 free:H X.env.locals=none
 lJ:∀ x c,X.env.cells.lookup x=some c->H c=none
 pin:∀ p∈X.pn++pins,s.heap.get? p.1=some p.2/\H p.1=none/\p.1≠X.env.locals/\p.1∉X.fs/\∀ v,p.2.data≠ .cell v
 hok:HOk X.prog X.w H s.heap
 len:σ.length=X.N.length
variable {x:Str}{u:Value}
section
variable {X:Cx}{pins:List (Addr×Obj)}{σ:List (Option V)}{H H':Hp}{s:Shared}{h':Heap}
theorem Cx.Ok.QE (ok:X.Ok){o:Obj}(e:X.base.get? b=some o):b∉X.fs:=λhb=>by
 have:=(ok.su.mem hb).1
 rw[e]at this;cases this
theorem Inv.bs (I:Inv X pins σ H s):∀ b o,X.base.get? b=some o->s.heap.get? b=some o/\H b=none:=λb o e=>
 ⟨I.base.keep b o (I.ok.bs b o e).1 (I.ok.bs b o e).2 (I.ok.QE e) (I.ok.BA b o e),I.base.free b o (I.ok.bs b o e).1 (I.ok.bs b o e).2 (I.ok.BA b o e)⟩
theorem Inv.bk (I:Inv X pins σ H s):∀ b o,X.base.get? b=some o->s.heap.get? b=some o:=λb o e=>(I.bs b o e).1
theorem Inv.mod (I:Inv X pins σ H s):Mod X.K X.mg X.base:=I.ok.mod
theorem Inv.kIn (I:Inv X pins σ H s):X.K.In s.heap:=I.ok.mod.kin.keeps I.bk
theorem Inv.lt (I:Inv X pins σ H s):X.env.locals<s.heap.objs.size:=let ⟨_,hn,_⟩:=I.loc;hn.lt
theorem Inv.sz (I:Inv X pins σ H s):X.s₀.heap.objs.size<=s.heap.objs.size:=aT I.ok.above (cu I.lt)
theorem Inv.QD (I:Inv X pins σ H s)(h:s.heap.objs.size<=a):a∉X.fs:=λhb=>by
 obtain⟨_,o,ho,_⟩:=I.ok.su.mem hb
 exact absurd (aP (ar ho) (aT I.sz h)) (cz _)
theorem Inv.cne (I:Inv X pins σ H s):∀ x c,X.env.cells.lookup x=some c->c≠X.env.locals:=λx c e z=>by
 obtain⟨v,o,ho,hd⟩:=I.cell x c e
 obtain⟨m,⟨o',es,ep,ho',hd',_⟩,_⟩:=I.loc
 rw[z,ho']at ho;cases ho;rw[hd']at hd;cases hd
theorem Inv.su (I:Inv X pins σ H s):s.heap.FunFrames X.base X.outer:=by
 have all:∀ (l:List Env),(∀ b∈frs l,b∈X.fs)->X.s₀.heap.FunFrames X.base l->s.heap.FunFrames X.base l:=by
  intro l
  induction l with
  |nil=>intro _ _;trivial
  |cons env r ih=>
   intro hs hl
   obtain⟨hk,⟨L,o,hf,hn,ho,hd⟩,hr⟩:=hl
   have hL:L∈X.fs:=hs L (by unfold frs;rw[cj,hf];exact au)
   obtain⟨sl,e⟩:=I.base.slot L o ho (I.ok.frf L hL) hL λz=>I.ok.El L z hL
   exact⟨hk,⟨L,_,hf,hn,e,hd⟩,ih (λb hb=>hs b (by unfold frs;rw[cj,hf];exact aq _ hb)) hr⟩
 exact all X.outer (λ_ hb=>hb) I.ok.su
theorem Inv.stack (I:Inv X pins σ H s):s.heap.FunFrames X.base X.stack:=by
 rcases I.ok.stk with e |⟨e,hf⟩
 ·rw[e];exact I.su
 ·rw[e]
  obtain⟨m,hn,_⟩:=I.loc
  refine .cons (by rw[I.ok.kind];decide) hf hn ?_ I.su
  exact Heap.get?_none_of_le (aT I.ok.bsz I.ok.above)
theorem Inv.oH (I:Inv X pins σ H s):∀ b∈frs X.stack,b∈X.env.locals::X.fs:=λb hb=>by
 rcases I.ok.stk with e |⟨e,hf⟩
 ·rw[e]at hb;exact aq _ hb
 ·rw[e]at hb
  unfold frs at hb
  rw[cj,hf]at hb
  exact hb
theorem Inv.yu (I:Inv X pins σ H s):∀ b∈frs X.stack,H b=none:=λb hb=>by
 rcases ay.mp (I.oH b hb)with e |hb
 ·rw[e];exact I.free
 ·obtain⟨_,o,ho,_⟩:=I.ok.su.mem hb
  exact I.base.free b o ho (I.ok.frf b hb) λz=>I.ok.El b z hb
theorem Inv.step {g':Array GenState}{t':Nat}{d':Drawn}{ch:List Addr}(I:Inv X pins σ H s)
  (hch:∀ b∈ch,(b∈X.ex\/X.s₀.heap.objs.size<=b)/\b≠X.env.locals/\(∀ x c,X.env.cells.lookup x=some c->c≠b)/\∀ p∈X.pn++pins,p.1≠b)
  (keep:∀ b o,b≠X.env.locals->b∉X.fs->b∉ch->s.heap.get? b=some o->H b=none->h'.get? b=some o)
  (slot:∀ b o,b≠X.env.locals->b∈X.fs->b∉ch->s.heap.get? b=some o->H b=none->∃ sl,h'.get? b=some {o with slots:=sl}) (free:∀ b o,b∉ch->s.heap.get? b=some o->H b=none->H' b=none)
  (there:∀ b o,b∉ch->s.heap.get? b=some o->∃ o',h'.get? b=some o')
  (q9:∀ b xs,H b=some (.tup xs)->H' b=some (.tup xs)) (qR:∀ b o u,H b=some (.frz o u)->H' b=some (.frz o u)) (ra:∀ b ps,H b=some (.tbl ps)->∃ more,H' b=some (.tbl (ps++more)))
  (ns:∀ m,s.heap.Ns X.env.locals m->h'.Ns X.env.locals m) (hok:HOk X.prog X.w H' h') (hg:AllBare g'):
  Inv X pins σ H' {s with heap:=h',gens:=g',drawn:=d',toks:=t'} :=by
 have neL:∀ b o,X.s₀.heap.get? b=some o->b≠X.env.locals:=λb o e=>aD (aP (ar e) I.ok.above)
 have neC:∀ b o,X.s₀.heap.get? b=some o->b∉X.ex->b∉ch:=λb o e hx hb=>by
  rcases(hch b hb).1 with z |z
  ·exact hx z
  ·exact absurd (aP (ar e) z) (cz _)
 have cellK:∀ x c,X.env.cells.lookup x=some c->∀ v,s.heap.IsCell c v->h'.IsCell c v:=λx c e v ⟨o,ho,hd⟩=>by
  have nch:c∉ch:=λz=>(hch c z).2.2.1 x c e rfl
  by_cases hc:c∈X.fs
  ·obtain⟨sl,q⟩:=slot c o (I.cne x c e) hc nch ho (I.lJ x c e)
   exact⟨_,q,hd⟩
  ·exact⟨o,keep c o (I.cne x c e) hc nch ho (I.lJ x c e),hd⟩
 refine⟨I.ok,I.os,hg,⟨λb o e n hb hx=>?_,λb o e n hb hx=>?_,λb o e n hx=>?_,λb o e hx=>?_,λb xs e=>q9 b xs (I.base.q9 b xs e),λb o xs e=>qR b o xs (I.base.qR b o xs e),λb ps e=>?_⟩,?_,λx c e=>?_,?_,λx c e=>?_,λp hp=>?_,hok,I.len⟩
 ·exact keep b o (neL b o e) hb (neC b o e hx) (I.base.keep b o e n hb hx) (I.base.free b o e n hx)
 ·obtain⟨sl,e1⟩:=I.base.slot b o e n hb hx
  obtain⟨sl',e2⟩:=slot b _ (neL b o e) hb (neC b o e hx) e1 (I.base.free b o e n hx)
  exact⟨sl',e2⟩
 ·obtain⟨o',e1⟩:=I.base.there b o e hx
  exact free b o' (neC b o e hx) e1 (I.base.free b o e n hx)
 ·obtain⟨o',e1⟩:=I.base.there b o e hx
  exact there b o' (neC b o e hx) e1
 ·obtain⟨m1,e1⟩:=I.base.ra b ps e
  obtain⟨m2,e2⟩:=ra b _ e1
  exact⟨m1++m2,by rw[e2,Array.append_assoc]⟩
 ·obtain⟨m,hn,hl⟩:=I.loc
  refine⟨m,ns m hn,λi x v e1 e2 e3=>?_⟩
  obtain⟨u,r,l⟩:=hl i x v e1 e2 e3
  refine⟨u,r,?_⟩
  rcases l with l |⟨k,c,e,z⟩
  ·exact .inl l
  ·exact .inr ⟨k,c,e,cellK x c e _ z⟩
 ·obtain⟨v,z⟩:=I.cell x c e
  exact⟨v,cellK x c e v z⟩
 ·obtain⟨m,⟨o,_,_,ho,_⟩,_⟩:=I.loc
  exact free _ o (λz=>(hch _ z).2.1 rfl) ho I.free
 ·obtain⟨v,o,ho,hd⟩:=I.cell x c e
  exact free c o (λz=>(hch c z).2.2.1 x c e rfl) ho (I.lJ x c e)
 ·obtain⟨e,n,ne,nf,d⟩:=I.pin p hp
  have nch:p.1∉ch:=λz=>(hch p.1 z).2.2.2 p hp rfl
  exact⟨keep p.1 p.2 ne nf nch e n,free p.1 p.2 nch e n,ne,nf,d⟩
theorem Inv.un {t':Nat}(I:Inv X pins σ H s)(u:Un X.fs [] H H' s.heap h')(hok:HOk X.prog X.w H' h'):Inv X pins σ H' {s with heap:=h',toks:=t'} :=by
 obtain⟨m,⟨o,es,ep,ho,r⟩,_⟩:=id I.loc
 obtain⟨sl,hL⟩:=u.any ho I.free (by simp)
 exact I.step (g':=s.gens) (d':=s.drawn) (ch:=[]) (λ_ z=>nomatch z) (λb o _ hb _ e n=>u.keep b o e n hb (by simp)) (λb o _ hb _ e n=>u.slot b o e n hb (by simp)) (λb o _ e n=>u.free b o e n (by simp)) (λb o _ e=>u.there b o e (by simp)) u.q9 u.qR u.ra (λm' hm=>by
  obtain⟨o',es',ep',ho',r'⟩:=hm
  rw[ho]at ho';cases ho'
  exact⟨_,es',ep',hL,r'⟩) hok I.bare
theorem Inv.call {g':Array GenState}{t':Nat}{d':Drawn}{ch:List Addr}(I:Inv X pins σ H s)(u:Un (frs X.stack) ch H H' s.heap h')(hok:HOk X.prog X.w H' h')(hg:AllBare g')
  (hch:∀ b∈ch,(b∈X.ex\/X.s₀.heap.objs.size<=b)/\b≠X.env.locals/\(∀ x c,X.env.cells.lookup x=some c->c≠b)/\∀ p∈X.pn++pins,p.1≠b):
  Inv X pins σ H' {s with heap:=h',gens:=g',drawn:=d',toks:=t'} :=by
 obtain⟨m,⟨o,es,ep,ho,r⟩,_⟩:=id I.loc
 obtain⟨sl,hL⟩:=u.any ho I.free λz=>(hch _ z).2.1 rfl
 exact I.step (ch:=ch) hch (λb o hL hb hc e n=>u.keep b o e n (λz=>(ay.mp (I.oH b z)).elim hL hb) hc) (λb o _ _ hc e n=>u.any e n hc) (λb o hc e n=>u.free b o e n hc) (λb o hc e=>u.there b o e hc) u.q9 u.qR u.ra (λm' hm=>by
  obtain⟨o',es',ep',ho',r'⟩:=hm
  rw[ho]at ho';cases ho'
  exact⟨_,es',ep',hL,r'⟩) hok hg
theorem Inv.turned {t':Nat}{it:Addr}(I:Inv X pins σ H s)(k:∀ b o,b≠it->s.heap.get? b=some o->h'.get? b=some o)(hn:H it=none)(hL:it≠X.env.locals)
  (h1:it∈X.ex\/X.s₀.heap.objs.size<=it) (h2:∀ x c,X.env.cells.lookup x=some c->c≠it) (h3:∀ p∈X.pn++pins,p.1≠it):Inv X pins σ H {s with heap:=h',toks:=t'} :=by
 have nit:∀ b u,H b=some u->b≠it:=λb u e z=>by rw[z,hn]at e;cases e
 refine I.step (g':=s.gens) (d':=s.drawn) (ch:=[it]) (λb hb=>?_) (λb o _ _ hc e _=>k b o (λz=>hc (by simp[z])) e) (λb o _ _ hc e _=>⟨o.slots,k b o (λz=>hc (by simp[z])) e⟩) (λ_ _ _ _ n=>n)
  (λb o hc e=>⟨o,k b o (λz=>hc (by simp[z])) e⟩) (λ_ _ e=>e) (λ_ _ _ e=>e) (λb ps e=>⟨#[],by rw[e];simp⟩) (λm hm=>?_) (λb u e=>?_) I.bare
 ·have e:b=it:=by simpa using hb
  subst e
  exact⟨h1,hL,h2,h3⟩
 ·obtain⟨o,es,ep,ho,r⟩:=hm
  exact⟨o,es,ep,k _ o (cB hL) ho,r⟩
 ·refine(I.hok b u e).rf (λc v hc q=>k c v ?_ q) (λ_ q=>q) λ_ _ q=>q
  rcases hc with z |z
  ·rw[z];exact nit b u e
  ·exact nit c _ z
theorem Inv.tok (I:Inv X pins σ H s)(t:Nat):Inv X pins σ H {s with toks:=t} :=I.un (h':=s.heap) (t':=t) Un.refl I.hok
theorem Inv.kept {t':Nat}(I:Inv X pins σ H s)(k:∀ b u,s.heap.get? b=some u->h'.get? b=some u):Inv X pins σ H {s with heap:=h',toks:=t'} :=I.un (Un.kept k) (I.hok.kept k)
theorem Inv.laid {t':Nat}(I:Inv X pins σ H s)(k:∀ b u,s.heap.get? b=some u->h'.get? b=some u)(hp:s.heap.objs.size<=a)(new:jv X.prog X.w (upd H a o) h' a o):
  Inv X pins σ (upd H a o) {s with heap:=h',toks:=t'} :=I.un (Un.laid k hp (I.hok.fresh hp)) (I.hok.laid k hp new)
theorem Inv.write {x e:Addr}{t':Nat}(I:Inv X pins σ H s)(mu:Mut (H x))(he:e=x\/H e=some (.own x))(k:∀ b u,b≠e->s.heap.get? b=some u->h'.get? b=some u)(heo:∃ u,h'.get? e=some u)
  (new:jv X.prog X.w (upd H x o) h' x o):Inv X pins σ (upd H x o) {s with heap:=h',toks:=t'} :=I.un (Un.write mu he k heo) (I.hok.write mu he k heo new)
theorem Inv.weak {σ':List (Option V)}(I:Inv X pins σ H s)(hl:σ'.length=σ.length)(w:∀ (i:Nat) v,σ'[i]? = some (some v)->σ[i]? = some (some v)):Inv X pins σ' H s:=
 ⟨I.ok,I.os,I.bare,I.base,let ⟨m,hn,hl'⟩:=I.loc;⟨m,hn,λi x v e1 e2 e3=>hl' i x v e1 (w i v e2) e3⟩,I.cell,I.free,I.lJ,I.pin,I.hok,hl.trans I.len⟩
theorem Inv.Ck {tW:List (Addr×Obj)}(I:Inv X pins σ H s)(h:∀ p∈tW,s.heap.get? p.1=some p.2/\H p.1=none/\p.1≠X.env.locals/\p.1∉X.fs/\∀ v,p.2.data≠ .cell v):Inv X tW σ H s:=
 ⟨I.ok,I.os,I.bare,I.base,I.loc,I.cell,I.free,I.lJ,λp hp=>(aL.mp hp).elim (λz=>I.pin p (cR _ z)) (h p),I.hok,I.len⟩
theorem vO {N:List Str}(hN:N.Nodup){i j:Nat}(a:N[i]? = some x)(b:N[j]? = some x):i=j:=by
 obtain⟨h1,e1⟩:=af.mp a
 obtain⟨h2,e2⟩:=af.mp b
 exact(List.getElem_inj hN).mp (e1.trans e2.symm)
theorem xE {M:Model}{A:Around}{E:Value->Shared->Prop}{i:Nat}{v:V}{Q:Unit->Shared->Prop}(I:Inv X pins σ H s)(hN:X.N.Nodup)(hi:X.N[i]? = some x)(hx:Loc X.env.scope x)(r:RelV v u)
  (h:∀ s',Inv X pins (σ.set i (some v)) H s'->(∃ a,Heap.SameBut a s.heap s'.heap/\(a=X.env.locals\/X.env.cells.lookup x=some a))->Q () s') (hf:X.fn x=true\/X.env.scope.names.lookup x=some .local:=by first |exact .inl rfl |exact .inr rfl |assumption):wpAny M A (storeName X.env x u) Q E s:=by
 obtain⟨m,hn,hl⟩:=id I.loc
 have Gk:(X.env.scope.kind == .class||(X.env.scope.kind == .module&&X.env.locals !=X.env.globals))=false:=by rw[I.ok.kind];rfl
 have hiσ:i<σ.length:=by rw[I.len];exact(af.mp hi).1
 have cne:=I.cne
 have tracked:∀ {a:Addr}{h':Heap},(∃ o,s.heap.get? a=some o/\H a=none)->Heap.SameBut a s.heap h'->HOk X.prog X.w H h':=λ{a h'} ha hs b ob e=>by
  obtain⟨_,_,nk⟩:=ha
  refine(I.hok b ob e).rf (λc w' hc q=>(hs.2 c ?_).trans q) (λ_ q=>q) λ_ _ q=>q
  rintro rfl
  rcases hc with rfl |hc
  ·rw[nk]at e;cases e
  ·rw[nk]at hc;cases hc
 rcases hx with hk |hk
 ·refine wpAny_storeName_local hk hn (λh' hn' hs=>?_) Gk
  obtain⟨oL,_,_,hoL,_⟩:=id hn
  refine h _ ⟨I.ok,I.os,I.bare,⟨λb o e n hb hx=>?_,λb o e n hb hx=>?_,I.base.free,λb o e hx=>?_,I.base.q9,I.base.qR,I.base.ra⟩,⟨_,hn',λj y v' e1 e2 e3=>?_⟩,λy c e=>?_,I.free,I.lJ,λp hp=>?_,tracked ⟨oL,hoL,I.free⟩ hs,by simpa using I.len⟩ ⟨_,hs,.inl rfl⟩
  ·exact(hs.2 b (aD (aP (ar e) I.ok.above))).trans (I.base.keep b o e n hb hx)
  ·obtain⟨sl,e1⟩:=I.base.slot b o e n hb hx
   exact⟨sl,(hs.2 b (aD (aP (ar e) I.ok.above))).trans e1⟩
  ·obtain⟨o',e1⟩:=I.base.there b o e hx
   exact⟨o',(hs.2 b (aD (aP (ar e) I.ok.above))).trans e1⟩
  ·by_cases hj:j=i
   ·subst hj
    rw[hi]at e1;cases e1
    rw[List.getElem?_set_self hiσ]at e2
    cases e2
    exact⟨u,r,.inl ⟨hk,by simp⟩⟩
   ·rw[dA (cB hj)]at e2
    obtain⟨u',r',q⟩:=hl j y v' e1 e2 e3
    refine⟨u',r',?_⟩
    rcases q with⟨k,e⟩|⟨k,c,e,z⟩
    ·refine .inl ⟨k,?_⟩
     have:y≠x:=λe=>hj (vO hN e1 (e ▸ hi))
     simp[this,e]
    ·exact .inr ⟨k,c,e,z.sameBut hs (cne y c e)⟩
  ·obtain⟨w',z⟩:=I.cell y c e
   exact⟨w',z.sameBut hs (cne y c e)⟩
  ·obtain⟨e,n,ne,nf,d⟩:=I.pin p hp
   exact⟨(hs.2 p.1 ne).trans e,n,ne,nf,d⟩
 ·have hfn:X.fn x=true:=by
   rcases hf with z |z
   ·exact z
   ·rw[z]at hk;cases hk
  obtain⟨c,hc⟩:=I.ok.has x (.inl hk)
  obtain⟨w',z⟩:=I.cell x c hc
  refine wpAny_storeName_cell I.ok.kind hk hc z (λh' hc' hs=>?_)
  obtain⟨oc,hoc,Sf⟩:=id z
  refine h {s with heap:=h'} ⟨I.ok,I.os,I.bare,⟨λb o e n hb hx=>?_,λb o e n hb hx=>?_,I.base.free,λb o e hx=>?_,I.base.q9,I.base.qR,I.base.ra⟩,⟨m,hn.sameBut hs (cB (cne x c hc)),λj y v' e1 e2 e3=>?_⟩,λy c' e=>?_,I.free,I.lJ,λp hp=>?_,tracked ⟨oc,hoc,I.lJ x c hc⟩ hs,by simpa using I.len⟩ ⟨c,hs,.inr hc⟩
  ·exact(hs.2 b (aD (aP (ar e) (I.ok.cab x c hfn hc)))).trans (I.base.keep b o e n hb hx)
  ·obtain⟨sl,e1⟩:=I.base.slot b o e n hb hx
   exact⟨sl,(hs.2 b (aD (aP (ar e) (I.ok.cab x c hfn hc)))).trans e1⟩
  ·obtain⟨o',e1⟩:=I.base.there b o e hx
   exact⟨o',(hs.2 b (aD (aP (ar e) (I.ok.cab x c hfn hc)))).trans e1⟩
  ·by_cases hj:j=i
   ·subst hj
    rw[hi]at e1;cases e1
    rw[List.getElem?_set_self hiσ]at e2
    cases e2
    exact⟨u,r,.inr ⟨.inl hk,c,hc,hc'⟩⟩
   ·rw[dA (cB hj)]at e2
    obtain⟨u',r',q⟩:=hl j y v' e1 e2 e3
    refine⟨u',r',?_⟩
    rcases q with q |⟨k,c',e,z'⟩
    ·exact .inl q
    ·refine .inr ⟨k,c',e,z'.sameBut hs ?_⟩
     rintro rfl
     exact hj (vO hN e1 (I.ok.inj _ _ _ e hc ▸ hi))
  ·by_cases hcc:c'=c
   ·subst hcc;exact⟨_,hc'⟩
   ·obtain⟨w2,z2⟩:=I.cell y c' e
    exact⟨w2,z2.sameBut hs hcc⟩
  ·obtain⟨e,n,ne,nf,d⟩:=I.pin p hp
   refine⟨(hs.2 p.1 ?_).trans e,n,ne,nf,d⟩
   intro q
   rw[q,hoc]at e
   have q':oc=p.2:=aZ e
   exact d w' (by rw[<-q'];exact Sf)
theorem uW {M:Model}{A:Around}{E:Value->Shared->Prop}{i:Nat}{v:V}{Q:Unit->Shared->Prop}(I:Inv X pins σ H s)(hN:X.N.Nodup)(hi:X.N[i]? = some x)(hx:Loc X.env.scope x)(r:RelV v u)
  (h:∀ s',Inv X pins (σ.set i (some v)) H s'->Q () s') (hf:X.fn x=true\/X.env.scope.names.lookup x=some .local:=by first |exact .inl rfl |exact .inr rfl |assumption):wpAny M A (storeName X.env x u) Q E s:=
 xE I hN hi hx r (λs' I' _=>h s' I') hf
theorem Inv.GF {s':Shared}{ch:List Addr}(I:Inv X pins σ H s)(ho:s'.os=s.os)(u:Un (frs X.stack) ch H H' s.heap s'.heap)(hok:HOk X.prog X.w H' s'.heap)(hg:AllBare s'.gens)
  (hch:∀ b∈ch,(b∈X.ex\/X.s₀.heap.objs.size<=b)/\b≠X.env.locals/\(∀ x c,X.env.cells.lookup x=some c->c≠b)/\∀ p∈X.pn++pins,p.1≠b):Inv X pins σ H' s':=by
 obtain⟨h',g',d',t',o'⟩:=s'
 have e:o'=s.os:=ho
 subst e
 exact I.call (g':=g') (t':=t') (d':=d') u hok hg hch
end
noncomputable abbrev XK:=Value->Option Addr->Hp->Prop
noncomputable abbrev St:=List (Option V)
noncomputable abbrev VK:=V->Hp->Prop
noncomputable abbrev TE:=St->Hp->VK->Prop
noncomputable abbrev TT:=St->Hp->(Bool->Hp->Prop)->Prop
noncomputable abbrev TA:=St->Hp->(List V->Hp->Prop)->Prop
structure Ends where
 nx:St->Hp->Prop
 rt:VK
 bk:St->Hp->Prop:=λ_ _=>False
 ct:St->Hp->Prop:=λ_ _=>False
noncomputable abbrev TS:=Ends->St->Hp->Prop
noncomputable def EP (X:Cx)(pins:List (Addr×Obj))(σ:St)(Q:VK)(u:Value)(s':Shared):Prop:=∃ v H',Inv X pins σ H' s'/\RelV v u/\Q v H'
noncomputable def TP (X:Cx)(pins:List (Addr×Obj))(σ:St)(Q:Bool->Hp->Prop)(b:Bool)(s':Shared):Prop:=∃ H',Inv X pins σ H' s'/\Q b H'
noncomputable def AP (X:Cx)(pins:List (Addr×Obj))(σ:St)(Q:List V->Hp->Prop)(us:List Value)(s':Shared):Prop:=∃ vs H',Inv X pins σ H' s'/\Vals vs us/\Q vs H'
noncomputable def SP (X:Cx)(pins:List (Addr×Obj))(D:Ends)(f:Flow)(s':Shared):Prop:=
 match f with
 |.next=>∃ σ' H',Inv X pins σ' H' s'/\D.nx σ' H'
 |.brk=>∃ σ' H',Inv X pins σ' H' s'/\D.bk σ' H'
 |.cont=>∃ σ' H',Inv X pins σ' H' s'/\D.ct σ' H'
 |.ret u=>∃ v σ' H',Inv X pins σ' H' s'/\RelV v u/\D.rt v H'
noncomputable def PE (X:Cx)(e:Expr)(t:TE):Prop:=
 ∀ (pins:List (Addr×Obj)) (s:Shared) (σ:St) (H:Hp) (Q:VK),Inv X pins σ H s->t σ H Q->wpAny (model X.prog X.w) X.A (eval e X.env) (EP X pins σ Q) X.xe s
noncomputable def PT (X:Cx)(e:Expr)(t:TT):Prop:=
 ∀ (pins:List (Addr×Obj)) (s:Shared) (σ:St) (H:Hp) (Q:Bool->Hp->Prop),Inv X pins σ H s->t σ H Q->wpAny (model X.prog X.w) X.A (isTrue e X.env (eval e X.env)) (TP X pins σ Q) X.xe s
noncomputable def PW (X:Cx)(e:Expr)(t:TT):Prop:=
 ∀ (whole:Sem Value) (pins:List (Addr×Obj)) (s:Shared) (σ:St) (H:Hp) (Q:Bool->Hp->Prop),Inv X pins σ H s->t σ H Q->wpAny (model X.prog X.w) X.A (isTrue e X.env whole) (TP X pins σ Q) X.xe s
theorem PW.pt {X:Cx}{e:Expr}{t:TT}(h:PW X e t):PT X e t:=h _
noncomputable def PA (X:Cx)(es:List Expr)(t:TA):Prop:=
 ∀ (pos:Pos) (pins:List (Addr×Obj)) (s:Shared) (σ:St) (H:Hp) (Q:List V->Hp->Prop),Inv X pins σ H s->t σ H Q->wpAny (model X.prog X.w) X.A (spliced (backTo pos (starEach es X.env))) (AP X pins σ Q) X.xe s
noncomputable def PS (X:Cx)(st:Stmt)(t:TS):Prop:=
 ∀ (pins:List (Addr×Obj)) (s:Shared) (σ:St) (H:Hp) (D:Ends),Inv X pins σ H s->t D σ H->wpAny (model X.prog X.w) X.A (exec st X.env) (SP X pins D) X.xe s
noncomputable def PSs (X:Cx)(st:List Stmt)(t:TS):Prop:=
 ∀ (pins:List (Addr×Obj)) (s:Shared) (σ:St) (H:Hp) (D:Ends),Inv X pins σ H s->t D σ H->wpAny (model X.prog X.w) X.A (execs st X.env) (SP X pins D) X.xe s
variable {A:Around}{E:Value->Shared->Prop}{s:Shared}
theorem thn {α:Type}{t:Sem α}{Q Q':α->Shared->Prop}{M:Model}(h:wpAny M A t Q E s)(hQ:∀ a s,Q a s->Q' a s):wpAny M A t Q' E s:=aR h hQ λ_ _ x=>x
variable {Q:Value->Shared->Prop}{pins:List (Addr×Obj)}{σ:St}{pos:Pos}{op:CmpOp}
section
variable {X:Cx}
theorem bin {a b:Expr}{ta tb:TE}(ha:PE X a ta)(hb:PE X b tb){R:V->V->Hp->Prop}(I:Inv X pins σ H s)(h:ta σ H λx H1=>tb σ H1 λy H2=>R x y H2)
  {α:Type}{Q:α->Shared->Prop}{f:Value->Value->Sem α}
  (hf:∀ v u s2 x y H2,Inv X pins σ H2 s2->RelV x v->RelV y u->R x y H2->wpAny (model X.prog X.w) X.A (f v u) Q X.xe s2):
  wpAny (model X.prog X.w) X.A (eval a X.env) (λv s₁=>wpAny (model X.prog X.w) X.A (eval b X.env) (λu s₂=>wpAny (model X.prog X.w) X.A (f v u) Q X.xe s₂) X.xe s₁) X.xe s:=by
 refine thn (ha pins s σ H _ I h) λv s1 ⟨x,H1,I1,r1,q1⟩=>?_
 refine thn (hb pins s1 σ H1 _ I1 q1) λu s2 ⟨y,H2,I2,r2,q2⟩=>?_
 exact hf v u s2 x y H2 I2 r1 r2 q2
noncomputable def Dz (i:Nat):TE:=λσ H Q=>∃ v,σ[i]? = some (some v)/\Q v H
noncomputable def tC (v:V):TE:=λ_ H Q=>Q v H
theorem Fw {i:Nat}(hN:X.N[i]? = some x)(hv:Vis X.env.scope x)(hd:(x==("__debug__" :Str))=false:=by decide)(hcd:(x==("__classdict__" :Str))=false:=by decide):PE X (.Name x pos) (Dz i):=by
 intro pins s σ H Q I h
 obtain⟨v,e,h⟩:=h
 obtain⟨m,hn,hl⟩:=I.loc
 obtain⟨u,r,l⟩:=hl i x v hN e hv
 have fin:EP X pins σ Q u s:=⟨v,H,I,r,h⟩
 rcases l with⟨hk,hm⟩|⟨hk,c,hc,Ii⟩
 ·exact wpAny_Name (wpAny_loadName_local I.ok.kind hk hn hm fin) hd
 ·rcases hk with hk |hk
  ·exact wpAny_Name (wpAny_loadName_cell I.ok.kind hk hc Ii fin) hd
  ·exact wpAny_Name (wpAny_loadName_free I.ok.kind hk hc Ii fin hcd) hd
theorem eR {i j pos} :PE X (.Constant (.int i) j pos) (tC (.int i)):=λ_ _ _ H _ I h=>wpAny_Constant_int ⟨.int i,H,I.tok _,⟨_,rfl⟩,h⟩
theorem qX {b j pos} :PE X (.Constant (.bool b) j pos) (tC (.bl b)):=λ_ _ _ H _ I h=>Constant_bool ⟨.bl b,H,I,rfl,h⟩
theorem ir {j pos} :PE X (.Constant .none j pos) (tC .non):=λ_ _ _ H _ I h=>Constant_none ⟨.non,H,I,rfl,h⟩
theorem eU {x j pos} :PE X (.Constant (.str x) j pos) (tC (.str x)):=λ_ _ _ H _ I h=>Calls.Constant_str ⟨.str x,H,I.tok _,⟨_,rfl⟩,h⟩
noncomputable def Gl (X:Cx)(x:Str):Prop:=X.env.kindOf x=some .globalImplicit
theorem qK {E:Value->Shared->Prop}{pos:Pos}(I:Inv X pins σ H s)(hg:Gl X x)(hm:X.mg x=some u)(h:Q u s)
  (hd:(x==("__debug__" :Str))=false:=by decide):wpAny (model X.prog X.w) X.A (eval (.Name x pos) X.env) Q E s:=
 Calls.Name_function_global I.ok.kind hg (Calls.loadGlobal_global (by rw[I.ok.glob];exact I.mod.glob.keeps I.bk) hm h) hd
theorem rp {E:Value->Shared->Prop}{pos:Pos}(I:Inv X pins σ H s)(hg:Gl X x)(hm:X.mg x=none)(hv:bootBuiltins x=some u)(h:Q u s)
  (hn:x≠ "__name__" :=by decide) (hd:(x==("__debug__" :Str))=false:=by decide):wpAny (model X.prog X.w) X.A (eval (.Name x pos) X.env) Q E s:=by
 obtain⟨mb,h1,h2⟩:=I.mod.blt
 exact Calls.Name_function_global I.ok.kind hg (Calls.loadGlobal_builtin (by rw[I.ok.glob];exact I.mod.glob.keeps I.bk) hm (by rw[I.ok.blt];exact h1.keeps I.bk) ((h2 x hn).trans hv) h) hd
theorem jJ {v:V}(hg:Gl X x)(hm:X.mg x=some u)(r:RelV v u)(hd:(x==("__debug__" :Str))=false:=by decide):PE X (.Name x pos) (tC v):=
 λ_ _ _ H _ I h=>qK I hg hm ⟨v,H,I,r,h⟩ hd
theorem Cn {v:V}(hg:Gl X x)(hm:X.mg x=none)(hv:bootBuiltins x=some u)(r:RelV v u)(hn:x≠ "__name__" :=by decide)(hd:(x==("__debug__" :Str))=false:=by decide):PE X (.Name x pos) (tC v):=
 λ_ _ _ H _ I h=>rp I hg hm hv ⟨v,H,I,r,h⟩ hn hd
noncomputable def t2I (ta tb:TE)(k:Int->Int->Hp->Prop):St->Hp->Prop:=λσ H=>ta σ H λx H1=>tb σ H1 λy H2=>∃ i j,x = .int i/\y = .int j/\k i j H2
variable {a b:Expr}{ta tb:TE}{pos:Pos}
noncomputable def PC (X:Cx)(op:CmpOp)(a b:Expr)(t:TE):Prop:=
 ∀ (pins:List (Addr×Obj)) (s:Shared) (σ:St) (H:Hp) (Q:VK),Inv X pins σ H s->t σ H Q->
  wpAny (model X.prog X.w) X.A (eval a X.env) (λv s₁=>wpAny (model X.prog X.w) X.A (eval b X.env) (λu s₂=>wpAny (model X.prog X.w) X.A (compareOp op v u) (EP X pins σ Q) X.xe s₂) X.xe s₁) X.xe s
theorem Aw (b:Expr)(h:op≠ .In)(h2:op≠ .NotIn):behindInMarks op b=false:=by
 have e1:(op==CmpOp.In)=false:=by cases op<;>first |rfl |exact absurd rfl h
 have e2:(op==CmpOp.NotIn)=false:=by cases op<;>first |rfl |exact absurd rfl h2
 cases b<;>simp[behindInMarks,e1,e2]
noncomputable def Bj (p:Int->Int->Bool)(ta tb:TE):TE:=λσ H Q=>t2I ta tb (λi j H2=>Q (.bl (p i j)) H2) σ H
noncomputable abbrev tLt:TE->TE->TE:=Bj λi j=>decide (i<j)
noncomputable abbrev tLe:TE->TE->TE:=Bj λi j=>decide (i<=j)
noncomputable abbrev tGt:TE->TE->TE:=Bj λi j=>decide (j<i)
noncomputable abbrev tGe:TE->TE->TE:=Bj λi j=>decide (j<=i)
noncomputable abbrev LF:TE->TE->TE:=Bj λi j=>decide (i=j)
noncomputable abbrev Ly:TE->TE->TE:=Bj λi j=> !decide (i=j)
theorem vz {p:Int->Int->Bool}(ha:PE X a ta)(hb:PE X b tb)
  (rule:∀ (i j:Int) (t u:Tok) (Q:Value->Shared->Prop) (s:Shared),Q (.bool (p i j)) s->wpAny (model X.prog X.w) X.A (compareOp op (.int i t) (.int j u)) Q X.xe s):PC X op a b (Bj p ta tb):=by
 intro pins s σ H Q I h
 refine bin ha hb I h λv u s2 x y H2 I2 rx ry q=>?_
 obtain⟨i,j,rfl,rfl,q⟩:=q
 obtain⟨t,rfl⟩:=rx
 obtain⟨t',rfl⟩:=ry
 exact rule i j t t' _ s2 ⟨.bl _,H2,I2,rfl,q⟩
theorem pL (ha:PE X a ta)(hb:PE X b tb):PC X .Lt a b (tLt ta tb):=vz ha hb λ_ _ _ _ _ _ h=>lt_int h
theorem pZ (ha:PE X a ta)(hb:PE X b tb):PC X .Gt a b (tGt ta tb):=vz ha hb λ_ _ _ _ _ _ h=>gt_int h
theorem xQ (ha:PE X a ta)(hb:PE X b tb):PC X .GtE a b (tGe ta tb):=vz ha hb λ_ _ _ _ _ _ h=>ge_int h
theorem mO (ha:PE X a ta)(hb:PE X b tb):PC X .Eq a b (LF ta tb):=vz ha hb λ_ _ _ _ _ _ h=>eq_int (by rw[Bool.beq_eq_decide_eq];exact h)
theorem vy (ha:PE X a ta)(hb:PE X b tb):PC X .NotEq a b (Ly ta tb):=vz ha hb λ_ _ _ _ _ _ h=>ne_int (by rw[bne,Bool.beq_eq_decide_eq];exact h)
noncomputable def LA (ta:TE):TE:=λσ H Q=>ta σ H λx H1=>Q (.bl (decide (x = .non))) H1
noncomputable def Kc (ta:TE):TE:=λσ H Q=>ta σ H λx H1=>Q (.bl (!decide (x = .non))) H1
theorem RelV.As {x:V}{v:Value}(r:RelV x v):(v==Value.none)=decide (x = .non):=by
 cases x with
 |non=>cases r;rfl
 |bl _=>cases r;rfl
 |int _=>obtain⟨t,rfl⟩:=r;rfl
 |str _=>obtain⟨t,rfl⟩:=r;rfl
 |byt _=>obtain⟨t,rfl⟩:=r;rfl
 |flt _=>obtain⟨t,rfl⟩:=r;rfl
 |ref _=>cases r;rfl
 |ty _=>cases r;rfl
theorem nI {j pos'}(ha:PE X a ta):PC X .Is a (.Constant .none j pos') (LA ta):=by
 intro pins s σ H Q I h
 refine thn (ha pins s σ H _ I h) λv s1 ⟨x,H1,I1,r1,q1⟩=>?_
 exact Constant_none (is_none_gen ⟨.bl _,H1,I1,by rw[r1.As];rfl,q1⟩)
theorem rT {j pos'}(ha:PE X a ta):PC X .IsNot a (.Constant .none j pos') (Kc ta):=by
 intro pins s σ H Q I h
 refine thn (ha pins s σ H _ I h) λv s1 ⟨x,H1,I1,r1,q1⟩=>?_
 exact Constant_none (isnot_none_gen ⟨.bl _,H1,I1,by rw[r1.As];rfl,q1⟩)
noncomputable def tB (t:TE):TT:=λσ H Q=>t σ H λx H1=>∃ c,x = .bl c/\Q c H1
theorem Bt {t:TE}(h:PC X op a b t)(h1:behindInMarks op b=false:=by first |exact Aw _ (by decide) (by decide)|rfl):PE X (.Compare a [op] [b] pos) t:=λpins s σ H Q I hw=>wpAny_Compare1 (h pins s σ H Q I hw) h1
theorem fC {t:TE}(h:PC X op a b t)(h1:behindInMarks op b=false:=by first |exact Aw _ (by decide) (by decide)|rfl):PT X (.Compare a [op] [b] pos) (tB t):=by
 intro pins s σ H Q I hw
 refine wpAny_isTrue_Compare1 (thn (h pins s σ H _ I hw) λv s1 h1=>thn h1 λu s2 h2=>thn h2 λc s3 ⟨x,H1,I1,r1,q1⟩=>?_) h1
 obtain⟨d,rfl,q⟩:=q1
 cases r1
 exact bU ⟨H1,I1,q⟩
theorem rk {e:Expr}{t:TE}(h:PE X e t)(he:∀ whole,isTrue e X.env whole=(do let v <-whole;standAt e.pos;holding [v] (truthy v)):=by intro _;rfl):PT X e (tB t):=by
 intro pins s σ H Q I hw
 refine isTrue_plain (thn (h pins s σ H _ I hw) λv s1 ⟨x,H1,I1,r1,q1⟩=>?_) (he _)
 obtain⟨d,rfl,q⟩:=q1
 cases r1
 exact bU ⟨H1,I1,q⟩
variable {tA tB':TT}{rest:List Expr}
noncomputable def LH (t u:TT):TT:=λσ H Q=>t σ H λc H1=>if c=true then u σ H1 Q else Q false H1
noncomputable def tOr (t u:TT):TT:=λσ H Q=>t σ H λc H1=>if c=true then Q true H1 else u σ H1 Q
noncomputable def Lx (t:TT):TT:=λσ H Q=>t σ H λc H1=>Q (!c) H1
theorem mn (ha:PT X a tA):PW X (.BoolOp .And [a] pos) tA:=by
 intro wh pins s σ H Q I h
 refine isTrue_and (thn (ha pins s σ H Q I h) λc s1 e=>?_)
 cases c with
 |true=>exact isTrue_and_nil e
 |false=>exact e
theorem j9 (ha:PT X a tA):PW X (.BoolOp .Or [a] pos) tA:=by
 intro wh pins s σ H Q I h
 refine isTrue_or (thn (ha pins s σ H Q I h) λc s1 e=>?_)
 cases c with
 |false=>exact isTrue_or_nil e
 |true=>exact e
theorem oY (ha:PT X a tA)(hb:PW X (.BoolOp .And (b::rest) pos) tB'):PW X (.BoolOp .And (a::b::rest) pos) (LH tA tB'):=by
 intro wh pins s σ H Q I h
 refine isTrue_and (thn (ha pins s σ H _ I h) λc s1 ⟨H1,I1,q1⟩=>?_)
 cases c with
 |true=>exact hb wh pins s1 σ H1 Q I1 q1
 |false=>exact⟨H1,I1,q1⟩
theorem jS (ha:PT X a tA)(hb:PW X (.BoolOp .Or (b::rest) pos) tB'):PW X (.BoolOp .Or (a::b::rest) pos) (tOr tA tB'):=by
 intro wh pins s σ H Q I h
 refine isTrue_or (thn (ha pins s σ H _ I h) λc s1 ⟨H1,I1,q1⟩=>?_)
 cases c with
 |true=>exact⟨H1,I1,q1⟩
 |false=>exact hb wh pins s1 σ H1 Q I1 q1
theorem nG (ha:PT X a tA):PT X (.UnaryOp .Not a pos) (Lx tA):=by
 intro pins s σ H Q I h
 exact isTrue_not (ha pins s σ H (λc H1=>Q (!c) H1) I h)
noncomputable def Kk (ta tb:TE):TE:=λσ H Q=>ta σ H λx H1=>∃ c,x = .bl c/\if c=true then tb σ H1 Q else Q (.bl false) H1
noncomputable def Kb (ta:TE):TE:=λσ H Q=>ta σ H λx H1=>∃ c,x = .bl c/\Q (.bl (!c)) H1
theorem IQ {op}{t:TE}(h:PE X a t):PE X (.BoolOp op [a] pos) t:=λpins s σ H Q I hw=>BoolOp_one (h pins s σ H Q I hw)
theorem IV (ha:PE X a ta)(hb:PE X (.BoolOp .And (b::rest) pos) tb):PE X (.BoolOp .And (a::b::rest) pos) (Kk ta tb):=by
 intro pins s σ H Q I h
 refine BoolOp_and (thn (ha pins s σ H _ I h) λv s1 ⟨x,H1,I1,r1,q1⟩=>?_)
 obtain⟨c,rfl,q1⟩:=q1
 cases r1
 refine bU ?_
 cases c with
 |true=>exact hb pins s1 σ H1 Q I1 q1
 |false=>exact⟨.bl false,H1,I1,rfl,q1⟩
theorem IS (ha:PE X a ta):PE X (.UnaryOp .Not a pos) (Kb ta):=by
 intro pins s σ H Q I h
 refine UnaryOp_ (thn (ha pins s σ H _ I h) λv s1 ⟨x,H1,I1,r1,q1⟩=>?_)
 obtain⟨c,rfl,q1⟩:=q1
 cases r1
 exact not_of (bU ⟨.bl (!c),H1,I1,rfl,q1⟩)
noncomputable def tIf (t:TT)(ta tb:TE):TE:=λσ H Q=>t σ H λc H1=>if c=true then ta σ H1 Q else tb σ H1 Q
theorem FA {c:Expr}(hc:PT X c tA)(ha:PE X a ta)(hb:PE X b tb):PE X (.IfExp c a b pos) (tIf tA ta tb):=by
 intro pins s σ H Q I h
 refine wpAny_IfExp (thn (hc pins s σ H _ I h) λd s1 ⟨H1,I1,q1⟩=>?_)
 cases d with
 |true=>exact ha pins s1 σ H1 Q I1 q1
 |false=>exact hb pins s1 σ H1 Q I1 q1
end
noncomputable def SqL (K:PySem.W.Frag)(H:Hp)(a:Addr)(xs:List V):Prop:=
 Rd H a (.lst xs)\/
  ∃ (o:Obj) (its:Array Value) (n:Nat),K.lookup a=some o/\o.cls = .type "list" /\o.dict=none/\o.data = .seq its n/\its.size<=sizeLine/\Vals xs its.toList
noncomputable def SqT (K:PySem.W.Frag)(H:Hp)(a:Addr)(xs:List V):Prop:=
 Rd H a (.tup xs)\/
  ∃ (o:Obj) (its:Array Value) (n:Nat),K.lookup a=some o/\o.cls = .type "tuple" /\o.data = .seq its n/\its.size<=sizeLine/\Vals xs its.toList
noncomputable def W8:Value->Option V
 |.none=>some .non
 |.bool b=>some (.bl b)
 |.int i _=>some (.int i)
 |.str x _=>some (.str x)
 |.bytes b _=>some (.byt b)
 |.float b _=>some (.flt b)
 |.ref a=>some (.ref a)
 |.type n=>some (.ty n)
 |_=>none
theorem RelV.abs {x:V}(r:RelV x u):W8 u=some x:=by
 cases x with
 |non=>cases r;rfl
 |bl _=>cases r;rfl
 |int _=>obtain⟨t,rfl⟩:=r;rfl
 |str _=>obtain⟨t,rfl⟩:=r;rfl
 |byt _=>obtain⟨t,rfl⟩:=r;rfl
 |flt _=>obtain⟨t,rfl⟩:=r;rfl
 |ref _=>cases r;rfl
 |ty _=>cases r;rfl
theorem RelV.inj {x y:V}(r:RelV x u)(q:RelV y u):x=y:=aZ (r.abs.symm.trans q.abs)
theorem Vals.inj:∀ {xs ys:List V}{us:List Value},Vals xs us->Vals ys us->xs=ys
 |_,_,_,.nil,.nil=>rfl
 |_,_,_,.cons r t,.cons r' t'=>by rw[r.inj r',Vals.inj t t']
variable {K:PySem.W.Frag}
section
variable {X:Cx}{pins:List (Addr×Obj)}{σ:St}{H:Hp}{s:Shared}{a:Addr}{xs ys:List V}
theorem SqL.of (h:H a=some (.lst xs)):SqL K H a xs:=.inl (.inl h)
theorem SqT.of (h:H a=some (.tup xs)):SqT K H a xs:=.inl (.inl h)
theorem Inv.list (I:Inv X pins σ H s)(h:SqL X.K H a xs):∃ its:List Value,Vals xs its/\PlainL s.heap a its.toArray/\xs.length<=sizeLine:=by
 rcases h with h |⟨o,its,n,hk,hc,hd,hs,hz,r⟩
 ·obtain⟨z,its,n,r,e⟩:=h.ok I.hok
  exact⟨its,r,⟨_,n,e,rfl,rfl,rfl⟩,z⟩
 ·refine⟨its.toList,r,⟨o,n,I.kIn a o hk,hc,hd,by simpa using hs⟩,?_⟩
  have e:=r.length
  simp only[aK]at e
  omega
theorem Inv.tuple (I:Inv X pins σ H s)(h:SqT X.K H a xs):∃ its:List Value,Vals xs its/\IsTup s.heap a its.toArray/\xs.length<=sizeLine:=by
 rcases h with h |⟨o,its,n,hk,hc,hs,hz,r⟩
 ·obtain⟨z,its,r,p⟩:=h.ok I.hok
  exact⟨its,r,p,z⟩
 ·refine⟨its.toList,r,⟨o,I.kIn a o hk,hc,n,by simpa using hs⟩,?_⟩
  have e:=r.length
  simp only[aK]at e
  omega
theorem Inv.qb (I:Inv X pins σ H s)(h:SqL X.K H a xs)(h':SqL X.K H a ys):xs=ys:=by
 obtain⟨its,r,⟨o,n,e,_,_,d⟩,_⟩:=I.list h
 obtain⟨its',r',⟨o',n',e',_,_,d'⟩,_⟩:=I.list h'
 rw[e]at e';cases e'
 rw[d]at d'
 injection d' with d1 _
 have:its=its':=by simpa using bF Array.toList d1
 subst this
 exact r.inj r'
end
noncomputable abbrev Cx.um (X:Cx)(E:Value->Shared->Prop):Cx:={X with xe:=E}
noncomputable abbrev Cx.nox (X:Cx):Cx:=X.um λ_ _=>False
theorem Cx.Ok.um {X:Cx}(ok:X.Ok)(E:Value->Shared->Prop):(X.um E).Ok:=
 ⟨ok.mod,ok.kind,ok.glob,ok.blt,ok.above,ok.inj,ok.has,ok.cab,ok.hd,ok.frames,ok.stk,ok.exf,ok.bs,ok.bsz,ok.BA,ok.El,ok.su,ok.frf⟩
theorem Cx.Ok.nD {X:Cx}(ok:(X.um E).Ok):X.Ok:=
 ⟨ok.mod,ok.kind,ok.glob,ok.blt,ok.above,ok.inj,ok.has,ok.cab,ok.hd,ok.frames,ok.stk,ok.exf,ok.bs,ok.bsz,ok.BA,ok.El,ok.su,ok.frf⟩
section
variable {X:Cx}{pins:List (Addr×Obj)}{σ:St}{H:Hp}{s:Shared}{E:Value->Shared->Prop}
theorem Inv.um (I:Inv X pins σ H s)(E:Value->Shared->Prop):Inv (X.um E) pins σ H s:=⟨I.ok.um E,I.os,I.bare,I.base,I.loc,I.cell,I.free,I.lJ,I.pin,I.hok,I.len⟩
theorem Inv.nD (I:Inv (X.um E) pins σ H s):Inv X pins σ H s:=⟨I.ok.nD,I.os,I.bare,I.base,I.loc,I.cell,I.free,I.lJ,I.pin,I.hok,I.len⟩
theorem SP.nD {D:Ends}{f:Flow}{s':Shared}(h:SP (X.um E) pins D f s'):SP X pins D f s':=by
 cases f with
 |next=>obtain⟨σ',H',I,q⟩:=h;exact⟨σ',H',I.nD,q⟩
 |brk=>obtain⟨σ',H',I,q⟩:=h;exact⟨σ',H',I.nD,q⟩
 |cont=>obtain⟨σ',H',I,q⟩:=h;exact⟨σ',H',I.nD,q⟩
 |ret u=>obtain⟨v,σ',H',I,r,q⟩:=h;exact⟨v,σ',H',I.nD,r,q⟩
theorem PSs.nox {st:List Stmt}{t:TS}(h:PSs X.nox st t):PSs X st t:=λpins s σ H D I hw=>
 aR (h pins s σ H D (I.um _) hw) (λ_ _ q=>q.nD) λ_ _ z=>False.elim z
end
section
variable {X:Cx}{st:Stmt}{rest:List Stmt}{t u:TS}{e:Expr}{te:TE}{pos:Pos}
noncomputable def Kd:TS:=λD σ H=>D.nx σ H
noncomputable def J9 (t u:TS):TS:=λD σ H=>t {D with nx:=u D} σ H
theorem fc:PSs X [] Kd:=λ_ _ σ H _ I h=>wpAny_execs_nil ⟨σ,H,I,h⟩
theorem eP (h1:PS X st t)(h2:PSs X rest u):PSs X (st::rest) (J9 t u):=by
 intro pins s σ H D I h
 refine wpAny_execs_cons (thn (h1 pins s σ H {D with nx:=u D} I h) λf s1 q=>?_)
 cases f with
 |next=>
  obtain⟨σ',H',I',q⟩:=q
  exact h2 pins s1 σ' H' D I' q
 |ret v=>exact q
 |brk=>exact q
 |cont=>exact q
theorem eQ (h1:PS X st t):PSs X [st] t:=by
 intro pins s σ H D I h
 refine wpAny_execs_cons (thn (h1 pins s σ H D I h) λf s1 q=>?_)
 cases f with
 |next=>exact wpAny_execs_nil q
 |ret v=>exact q
 |brk=>exact q
 |cont=>exact q
theorem Inv.quiet (I:Inv X pins σ H s):interactive X.env=false:=by simp[interactive,I.ok.kind]
noncomputable def Kh (te:TE):TS:=λD σ H=>te σ H λ_ H1=>D.nx σ H1
theorem iB (he:PE X e te)(hs:swapsWith e none pos.line X.env=pure false:=by rfl):PS X (.Expr e pos) (Kh te):=by
 intro pins s σ H D I h
 exact wpAny_Expr_any (thn (he pins s σ H _ I h) λv s1 ⟨x,H1,I1,r1,q1⟩=>⟨σ,H1,I1,q1⟩) I.quiet hs
noncomputable def Lw (te:TE):TS:=λD σ H=>te σ H D.rt
theorem fb (he:PE X e te):PS X (.Return (some e) pos) (Lw te):=by
 intro pins s σ H D I h
 exact wpAny_Return_some (thn (he pins s σ H _ I h) λv s1 ⟨x,H1,I1,r1,q1⟩=>⟨x,σ,H1,I1,r1,q1⟩)
noncomputable def LB (c:TT)(t u:TS):TS:=λD σ H=>c σ H λb H1=>if b=true then t D σ H1 else u D σ H1
theorem fF {c:Expr}{a b:List Stmt}{tc:TT}(hc:PT X c tc)(ha:PSs X a t)(hb:PSs X b u):PS X (.If c a b pos) (LB tc t u):=by
 intro pins s σ H D I h
 refine wpAny_If (thn (hc pins s σ H _ I h) λd s1 ⟨H1,I1,q1⟩=>?_)
 cases d with
 |true=>exact ha pins s1 σ H1 D I1 q1
 |false=>exact hb pins s1 σ H1 D I1 q1
end
noncomputable abbrev TG:=V->St->Hp->(St->Hp->Prop)->Prop
noncomputable abbrev TGs:=List V->St->Hp->(St->Hp->Prop)->Prop
noncomputable def PG (X:Cx)(target:Expr)(t:TG):Prop:=
 ∀ (pins:List (Addr×Obj)) (s:Shared) (σ:St) (H:Hp) (v:V) (u:Value) (Q:St->Hp->Prop),Inv X pins σ H s->RelV v u->t v σ H Q->
  wpAny (model X.prog X.w) X.A (assign target X.env u) (λ_ s'=>∃ σ' H',Inv X pins σ' H' s'/\Q σ' H') X.xe s
noncomputable def PGs (X:Cx)(ts:List Expr)(t:TGs):Prop:=
 ∀ (pins:List (Addr×Obj)) (s:Shared) (σ:St) (H:Hp) (vs:List V) (us:List Value) (Q:St->Hp->Prop),Inv X pins σ H s->Vals vs us->t vs σ H Q->
  wpAny (model X.prog X.w) X.A (assignInOrder ((assignEach ts X.env).map (·.2)) us) (λ_ s'=>∃ σ' H',Inv X pins σ' H' s'/\Q σ' H') X.xe s
noncomputable abbrev XA:=V->V->V->Hp->(Hp->Prop)->Prop
noncomputable abbrev TIp:=V->V->Hp->VK->Prop
section
variable {X:Cx}{pos:Pos}
noncomputable def lI (i:Nat):TG:=λv σ H Q=>Q (σ.set i (some v)) H
theorem fe {i:Nat}{x:Str}(hN:X.N.Nodup)(hi:X.N[i]? = some x)(hx:Loc X.env.scope x)(hf:X.fn x=true\/X.env.scope.names.lookup x=some .local:=by first |exact .inl rfl |exact .inr rfl |assumption):PG X (.Name x pos) (lI i):=by
 intro pins s σ H v u Q I r h
 exact wpAny_assign_Name (uW I hN hi hx r (λs' I'=>⟨_,H,I',h⟩) hf)
noncomputable def JE:TGs:=λvs σ H Q=>vs = []/\Q σ H
noncomputable def AU (t:TG)(u:TGs):TGs:=λvs σ H Q=>∃ v r,vs=v::r/\t v σ H λσ' H'=>u r σ' H' Q
theorem gN:PGs X [] JE:=by
 intro pins s σ H vs us Q I r h
 obtain⟨e,h⟩:=h
 subst e
 cases r
 exact assignInOrder_nil ⟨σ,H,I,h⟩
theorem fu {e:Expr}{es:List Expr}{t:TG}{u:TGs}(h1:PG X e t)(h2:PGs X es u)
  (hs:(assignEach (e::es) X.env).map (·.2)=assign e X.env::(assignEach es X.env).map (·.2):=by rfl):PGs X (e::es) (AU t u):=by
 intro pins s σ H vs us Q I r h
 obtain⟨v,vr,e1,h⟩:=h
 subst e1
 cases r with
 |cons r rr=>
  rw[hs]
  refine assignInOrder_cons (thn (h1 pins s σ H _ _ _ I r h) λ_ s1 ⟨σ1,H1,I1,q1⟩=>?_)
  exact h2 pins s1 σ1 H1 _ _ Q I1 rr q1
noncomputable def JC (K:PySem.W.Frag)(n:Nat)(t:TGs):TG:=λv σ H Q=>∃ a xs,v = .ref a/\SqT K H a xs/\xs.length=n/\t xs σ H Q
theorem jk {es:List Expr}{k:Nat}{t:TGs}{n:Nat}(hc:X.calm=true)(h:PGs X es t)
  (hn:(assignEach es X.env).length=n:=by rfl) (hst:(assignEach es X.env).findIdx? (·.1)=none:=by rfl):PG X (.Tuple es k pos) (JC X.K n t):=by
 intro pins s σ H v u Q I r hw
 obtain⟨a,xs,e1,hq,hl,hw⟩:=hw
 subst e1
 cases r
 obtain⟨its,rv,ht,hz⟩:=I.tuple hq
 refine assign_Tuple_tuple (I.ok.hd hc) ht (by simp[hn,<-hl,rv.length]) hst λh' hx=>?_
 have I1:Inv X pins σ H {s with heap:=h'} :=I.kept (t':=s.toks) λb o e=>hx b o (aD (ar e)) e
 exact h pins _ σ H xs _ Q I1 (by simpa using rv) hw
noncomputable def IF (te:TE)(g:TG):TS:=λD σ H=>te σ H λx H1=>g x σ H1 D.nx
theorem nH {tg e:Expr}{te:TE}{g:TG}(he:PE X e te)(hg:PG X tg g)(hs:swapsWithSole [tg] e pos.line X.env=pure false:=by rfl)(hw:swappedStores [tg] e X.env=pure none:=by rfl)
  (h1:(assignEach [tg] X.env).map (·.2) = [assign tg X.env]:=by rfl):PS X (.Assign [tg] e pos) (IF te g):=by
 intro pins s σ H D I h
 refine wpAny_Assign_stores (thn (he pins s σ H _ I h) λv s1 ⟨x,H1,I1,r1,q1⟩=>?_) hs hw
 rw[h1]
 exact thn (hg pins s1 σ H1 x v _ I1 r1 q1) λ_ s2 q=>q
theorem fk {i:Nat}{x:Str}{e:Expr}{te:TE}{pos':Pos}(hN:X.N.Nodup)(hi:X.N[i]? = some x)(hx:Loc X.env.scope x)(he:PE X e te)(hs:swapsWith e (some (.Name x pos')) pos.line X.env=pure false:=by rfl)(hf:X.fn x=true\/X.env.scope.names.lookup x=some .local:=by first |exact .inl rfl |exact .inr rfl |assumption):
  PS X (.Assign [.Name x pos'] e pos) (IF te (lI i)):=by
 intro pins s σ H D I h
 refine wpAny_Assign_Name (thn (he pins s σ H _ I h) λv s1 ⟨y,H1,I1,r1,q1⟩=>?_) hs
 exact uW I1 hN hi hx r1 (λs2 I2=>⟨_,H1,I2,q1⟩) hf
end
structure It where
 go:Nat->Hp->Prop
 yld:Nat->Hp->V->Hp->Prop
 stop:Nat->Hp->Prop
noncomputable def nU (X:Cx)(pins:List (Addr×Obj))(H:Hp)(b:Addr):Prop:=
 H b=none/\b≠X.env.locals/\b∉X.fs/\(b∈X.ex\/X.s₀.heap.objs.size<=b)/\(∀ x c,X.env.cells.lookup x=some c->c≠b)/\∀ p∈X.pn++pins,p.1≠b
theorem Inv.Gp {X:Cx}{H':Hp}(I:Inv X pins σ H s)(hb:s.heap.objs.size<=b)(hn:H' b=none):nU X pins H' b:=by
 refine⟨hn,Nat.ne_of_gt (aP I.lt hb),I.QD hb,.inr (aT I.sz hb),λx c e z=>?_,λp hp z=>?_⟩
 ·obtain⟨v,q⟩:=I.cell x c e
  exact absurd (aP q.lt (by rw[z];exact hb)) (cz _)
 ·exact absurd (aP (ar (I.pin p hp).1) (by rw[z];exact hb)) (cz _)
structure Turn (P:Program)(w:World)(K:PySem.W.Frag)(tg:Expr)(J:It)(fp:List Addr)(it:Addr)(tn:Nat->Heap->Prop):Prop where
 mem:it∈fp
 obj:∀ i h,tn i h->∀ b∈fp,∃ o,h.get? b=some o/\∀ v,o.data≠ .cell v
 keep:∀ i h h',tn i h->(∀ b∈fp,∀ o,h.get? b=some o->h'.get? b=some o)->tn i h'
 item:∀ (X:Cx),X.prog=P->X.w=w->X.K=K->X.calm=true->∀ (i:Nat) (pins:List (Addr×Obj)) (s:Shared) (σ:St) (H:Hp) (E:Value->Shared->Prop),Inv X pins σ H s->(∀ b∈fp,nU X pins H b)->tn i s.heap->J.go i H->
  wpAny (model P w) X.A (pyNext (.ref it)) (λr s1=>∃ u,r=some u/\
   wpAny (model P w) X.A (letOwnedTupleGo tg (.ref it) u) (λ_ s2=>∃ x H',Inv X pins σ H' s2/\RelV x u/\J.yld i H x H'/\tn (i+1) s2.heap/\∀ b∈fp,H' b=none) E s1) E s
 done:∀ (X:Cx),X.prog=P->X.w=w->X.K=K->X.calm=true->∀ (i:Nat) (pins:List (Addr×Obj)) (s:Shared) (σ:St) (H:Hp) (E:Value->Shared->Prop),Inv X pins σ H s->(∀ b∈fp,nU X pins H b)->tn i s.heap->J.stop i H->
  wpAny (model P w) X.A (pyNext (.ref it)) (λr s1=>r=none/\Inv X pins σ H s1) E s
 self:∀ (A:Around) (i:Nat) (s:Shared) (Q:Value->Shared->Prop) (E:Value->Shared->Prop),tn i s.heap->Q (.ref it) s->wpAny (model P w) A (pyIter (.ref it)) Q E s
noncomputable abbrev TI:=St->Hp->(It->Hp->Prop)->Prop
noncomputable def PIE (X:Cx)(pins:List (Addr×Obj))(σ:St)(tg:Expr)(R:It->Hp->Prop)(itv:Value)(s2:Shared):Prop:=
 ∃ (it:Addr) (fp:List Addr) (tn:Nat->Heap->Prop) (J:It) (H':Hp),itv = .ref it/\Inv X pins σ H' s2/\Turn X.prog X.w X.K tg J fp it tn/\tn 0 s2.heap/\(∀ b∈fp,nU X pins H' b)/\R J H'
noncomputable def PI (X:Cx)(tg iter:Expr)(wi:TI):Prop:=
 ∀ (pins:List (Addr×Obj)) (s:Shared) (σ:St) (H:Hp) (R:It->Hp->Prop),Inv X pins σ H s->wi σ H R->
  wpAny (model X.prog X.w) X.A (eval iter X.env) (λv s1=>wpAny (model X.prog X.w) X.A (pyIter v) (PIE X pins σ tg R) X.xe s1) X.xe s
theorem AS {M : Model} {A : Around} {E : Value → Shared → Prop} {s : Shared} {tg : Expr} {it : Addr} {u : Value} {o : Obj} {n : String} {vs : Array Value} {Q : Unit → Shared → Prop} (ho : s.heap.get? it = some o) (hc : o.cls = .type n) (hd : o.data = .fields vs)
    (hn : ["enumerate", "zip", "dict_itemiterator", "dict_reverseitemiterator", "odict_iterator", "itertools.zip_longest", "itertools.pairwise"].contains n = false) (hQ : Q () s) : wpAny M A (letOwnedTupleGo tg (.ref it) u) Q E s := by
  unfold letOwnedTupleGo
  cases tg <;> first
    | exact ao hQ
    | (cases u <;> first
        | exact ao hQ
        | (refine ae (wpAny_load ho ?_)
           rw [hc, hd]
           show wpAny M A (if (["enumerate", "zip", "dict_itemiterator", "dict_reverseitemiterator", "odict_iterator", "itertools.zip_longest", "itertools.pairwise"].contains n && vs[0]? == some (rawInt _)) = true then _ else _) Q E s
           rw [ak (by intro h; rw [hn, Bool.false_and] at h; cases h)]
           exact ao hQ))
noncomputable def Itl (K:PySem.W.Frag)(a:Addr):It:=
 ⟨λi H=>∃ xs x,SqL K H a xs/\xs[i]? = some x,λi H x H'=>H'=H/\∀ xs,SqL K H a xs->xs[i]? = some x,λi H=>∃ xs,SqL K H a xs/\xs.length<=i⟩
noncomputable def Itr (lo:Int)(n:Nat):It:=⟨λi _=>i<n,λi H x H'=>H'=H/\x = .int (lo+i),λi _=>n<=i⟩
theorem Dv {tg:Expr}(a it:Addr):Turn P w K tg (Itl K a) [it] it (λi h=>h.IsListIter it a i) where
 mem:=by simp
 obj:=λi h st b hb=>by
  have e:b=it:=by simpa using hb
  subst e
  obtain⟨o,e,c,d⟩:=st
  exact⟨o,e,λv z=>by rw[d]at z;cases z⟩
 keep:=λi h h' st k=>st.at λo e=>k it (by simp) o e
 item:=by
  intro X hP hw hK hc i pins s σ H E I hf st hg
  subst hP hw hK
  obtain⟨xs,x,hq,hx⟩:=hg
  obtain⟨its,rv,p,hz⟩:=I.list hq
  obtain⟨u,hu,ru⟩:=rv.get hx
  obtain⟨f0,f1,f2,f3,f4,f5⟩:=hf it (by simp)
  refine wpAny_pyNext_list_item st p.isList (x:=u) (by simpa using hu) λh' st' sb=>?_
  have I1:Inv X pins σ H {s with heap:=h'} :=I.turned (t':=s.toks) (λb o hb e=>(sb.2 b hb).trans e) f0 f1 f3 f4 f5
  obtain⟨o,e,c,d⟩:=id st'
  exact⟨u,rfl,AS (s:={s with heap:=h'}) e c d (by decide) ⟨x,H,I1,ru,⟨rfl,λys hy=>by rw[I.qb hy hq];exact hx⟩,st',λb hb=>(hf b hb).1⟩⟩
 done:=by
  intro X hP hw hK hc i pins s σ H E I hf st hg
  subst hP hw hK
  obtain⟨xs,hq,hx⟩:=hg
  obtain⟨its,rv,p,hz⟩:=I.list hq
  obtain⟨f0,f1,f2,f3,f4,f5⟩:=hf it (by simp)
  have hl:=rv.length
  exact wpAny_pyNext_list_end (I.ok.hd hc) st p.isList (by simp;omega) λh' eb=>⟨rfl,I.turned (t':=s.toks) (λb o hb e=>eb b o hb e) f0 f1 f3 f4 f5⟩
 self:=λ_ _ _ _ _ st h=>wpAny_pyIter_listiter st h
theorem Bh {tg:Expr}(it:Addr)(lo:Int)(n:Nat):Turn P w K tg (Itr lo n) [it] it (λi h=>IsRangeIter h it (lo+(i:Nat)*1) ((n:Int)-(i:Nat)) 1) where
 mem:=by simp
 obj:=λi h st b hb=>by
  have e:b=it:=by simpa using hb
  subst e
  exact⟨_,st,λv z=>by
   have z':Data.fields _=Data.cell v:=z
   cases z'⟩
 keep:=λi h h' st k=>k it (by simp) _ st
 item:=by
  intro X hP hw hK hc i pins s σ H E I hf st hg
  subst hP hw hK
  obtain⟨f0,f1,f2,f3,f4,f5⟩:=hf it (by simp)
  have W:=Walks.range (prog:=X.prog) (w:=X.w) (I.ok.hd hc) it lo 1 n
  refine W.item i s _ _ hg st λv h' tk hv st' kk=>?_
  obtain⟨t,rfl⟩:=hv
  have I1:Inv X pins σ H {s with heap:=h',toks:=tk} :=I.turned (λb o hb e=>kk b o (by simpa using hb) e) f0 f1 f3 f4 f5
  refine⟨_,rfl,AS (s:={s with heap:=h',toks:=tk}) (n:= "range_iterator") st' rfl rfl (by decide) ⟨.int (lo+i),H,I1,⟨t,?_⟩,⟨rfl,rfl⟩,st',λb hb=>(hf b hb).1⟩⟩
  rw[Int.mul_one]
 done:=by
  intro X hP hw hK hc i pins s σ H E I hf st hg
  subst hP hw hK
  obtain⟨f0,f1,f2,f3,f4,f5⟩:=hf it (by simp)
  exact wpAny_pyNext_range_end (I.ok.hd hc) st (by have:n<=i:=hg;omega) λh' eb=>⟨rfl,I.turned (t':=s.toks) (λb o hb e=>eb b o hb e) f0 f1 f3 f4 f5⟩
 self:=λ_ _ _ _ _ st h=>wpAny_pyIter_rangeiter st h
section
variable {X:Cx}{tg:Expr}
noncomputable def KR (K:PySem.W.Frag)(tl:TE):TI:=λσ H R=>tl σ H λx H1=>∃ a,x = .ref a/\(∃ xs,SqL K H1 a xs)/\R (Itl K a) H1
theorem gc {l:Expr}{tl:TE}(hl:PE X l tl):PI X tg l (KR X.K tl):=by
 intro pins s σ H R I h
 refine thn (hl pins s σ H _ I h) λv s1 ⟨x,H1,I1,r1,q1⟩=>?_
 obtain⟨a,e,⟨xs,hq⟩,q⟩:=q1
 subst e
 cases r1
 obtain⟨its,rv,p,hz⟩:=I1.list hq
 refine dw p.isList ?_
 refine⟨s1.heap.objs.size,[s1.heap.objs.size],_,_,H1,rfl,I1.kept (t':=s1.toks) λb o e=>aj _ e,Dv a _,⟨_,aM _ rfl,rfl,rfl⟩,λb hb=>?_,q⟩
 have e:b=s1.heap.objs.size:=by simpa using hb
 subst e
 exact I1.Gp (aw _) (I1.hok.fresh (aw _))
theorem Fg {R:It->Hp->Prop}{lo hi:Int}{t u v:Tok}{tk:Nat}(I:Inv X pins σ H s)(h1: -(2 ^ 62)<=lo)(h2:lo<2 ^ 62)(h3: -(2 ^ 62)<=hi)(h4:hi<2 ^ 62)
  (q:R (Itr lo (hi-lo).toNat) H):wpAny (model X.prog X.w) X.A (pyIter (.ref s.heap.objs.size)) (PIE X pins σ tg R) E {s with heap:=s.heap.push {cls:=.type "range",data:=.fields #[.int lo t,.int hi u,.int 1 v]},toks:=tk} :=by
 refine wpAny_pyIter_range (IsRange.new ..) (small_one h1 h2 h3 h4) ?_
 have I1:Inv X pins σ H {s with heap:=s.heap.push {cls:=.type "range",data:=.fields #[.int lo t,.int hi u,.int 1 v]},toks:=tk} :=I.kept λb o e=>aj _ e
 refine⟨(s.heap.push {cls:=.type "range",data:=.fields #[.int lo t,.int hi u,.int 1 v]}).objs.size,[(s.heap.push {cls:=.type "range",data:=.fields #[.int lo t,.int hi u,.int 1 v]}).objs.size],_,_,H,rfl,
  I1.kept (t':=tk) λb o e=>aj _ e,Bh _ lo (hi-lo).toNat,?_,λb hb=>?_,q⟩
 ·have e1:lo+((0:Nat):Int)*1=lo:=by simp
  have e2:(((hi-lo).toNat:Nat):Int)-((0:Nat):Int)=Builtin.Range.rangeSize lo hi 1:=by rw[rangeSize_one];split<;>omega
  show IsRangeIter _ _ (lo+((0:Nat):Int)*1) ((((hi-lo).toNat:Nat):Int)-((0:Nat):Int)) 1
  rw[e1,e2]
  exact aM _ rfl
 ·have e:b=(s.heap.push {cls:=.type "range",data:=.fields #[.int lo t,.int hi u,.int 1 v]}).objs.size:=by simpa using hb
  subst e
  exact I1.Gp (aw _) (I1.hok.fresh (aw _))
noncomputable def KQ (ta:TA):TI:=λσ H R=>ta σ H λvs H1=>∃ j:Int,vs = [.int j]/\ -(2 ^ 62)<=j/\j<2 ^ 62/\R (Itr 0 j.toNat) H1
theorem sP {a:Expr}{ta:TA}{p:Pos}(hg:Gl X "range")(hm:X.mg "range" = none)(ha:PA X [a] ta)(hs:starEach [a] X.env = [(false,eval a X.env)]:=by rfl):PI X tg (.Call (.Name "range" p) [a] [] pos) (KQ ta):=by
 intro pins s σ H R I h
 refine Call_ (rp I hg hm boot_range (cL (thn (ha pos pins s σ H _ I h) λus s1 ⟨vs,H1,I1,r1,q1⟩=>?_) hs rfl))
 obtain⟨j,e,q1,q2,q⟩:=q1
 subst e
 cases r1 with
 |cons r rr=>
  cases rr
  obtain⟨t,rfl⟩:=r
  exact call_range_1 (Fg I1 (by omega) (by omega) q1 q2 (by simpa using q))
noncomputable def LC (wi:TI)(g:TG)(tb:TS):TS:=λD σ H=>wi σ H λJ H1=>∃ W:Nat->Nat->St->Hp->Prop,(∃ m,W 0 m σ H1)/\∀ i m σ H,W i m σ H->
 (J.stop i H/\D.nx σ H)\/(J.go i H/\∃ N:St->Hp->Prop,(∀ σ' H',N σ' H'->∃ m',m'<m/\W (i+1) m' σ' H')/\∀ x H',J.yld i H x H'->g x σ H' λσ2 H2=>tb {D with nx:=N,ct:=N,bk:=D.nx} σ2 H2)
noncomputable def rm (fp:List Addr)(h:Heap):List (Addr×Obj):=fp.filterMap λb=>(h.get? b).map λo=>(b,o)
theorem jC {fp:List Addr}{o:Obj}(hb:b∈fp)(e:h.get? b=some o):(b,o)∈rm fp h:=dY.mpr ⟨b,hb,by rw[e];rfl⟩
theorem DU {fp:List Addr}{p:Addr×Obj}(hp:p∈rm fp h):p.1∈fp/\h.get? p.1=some p.2:=by
 obtain⟨b,hb,e⟩:=dY.mp hp
 cases q:h.get? b with
 |none=>rw[q]at e;cases e
 |some o=>
  rw[q]at e
  have e':(b,o)=p:=aZ e
  subst e'
  exact⟨hb,q⟩
theorem Inv.pinned {fp:List Addr}(I:Inv X pins σ H s)(hf:∀ b∈fp,nU X pins H b)(ho:∀ b∈fp,∃ o,s.heap.get? b=some o/\∀ v,o.data≠ .cell v):Inv X (pins++rm fp s.heap) σ H s:=
 I.Ck λp hp=>(aL.mp hp).elim (λz=>I.pin p (aF _ z)) λz=>by
  obtain⟨hb,e⟩:=DU z
  obtain⟨f0,f1,f2,_⟩:=hf p.1 hb
  obtain⟨o,e',d⟩:=ho p.1 hb
  rw[e]at e';cases e'
  exact⟨e,f0,f1,f2,d⟩
theorem Inv.nW {pl:List (Addr×Obj)}(I:Inv X (pins++pl) σ H s):Inv X pins σ H s:=I.Ck λp hp=>I.pin p (aF _ (cR _ hp))
theorem jT {iter:Expr}{body:List Stmt}{wi:TI}{g:TG}{tb:TS}{pos:Pos}(hp:PassesOwn (model X.prog X.w) X.A X.env X.xe)(hc:X.calm=true)(hi:PI X tg iter wi)(hg:PG X tg g)(hb:PSs X body tb)
  (hs:∀ x,foldedSetIterable iter X.env x=pure x:=by intro _;rfl):PS X (.For tg iter body [] pos) (LC wi g tb):=by
 intro pins s σ H D I h
 refine wpAny_For (thn (hi pins s σ H _ I h) λv s1 h1=>thn h1 λitv s2 h2=>?_) hs
 obtain⟨it,fp,tn,J,H2,e,I2,T,st2,f2,W,⟨m0,w0⟩,turn⟩:=h2
 subst e
 have IG:∀ {H':Hp},(∀ b∈fp,H' b=none)->∀ b∈fp,nU X pins H' b:=λhn b hb=>⟨hn b hb,(f2 b hb).2⟩
 refine codeAny_forLoop_any (λn s'=>∃ i σ' H',Inv X pins σ' H' s'/\tn i s'.heap/\(∀ b∈fp,H' b=none)/\W i n σ' H') ?_ m0 ⟨0,σ,H2,I2,st2,λb hb=>(f2 b hb).1,w0⟩
 rintro n s3 ⟨i,σ3,H3,I3,st3,fr3,w3⟩
 rcases turn i n σ3 H3 w3 with⟨stop,qn⟩|⟨go,N,hN,step⟩
 ·refine ef hp (thn (T.done X rfl rfl rfl hc i pins s3 σ3 H3 X.xe I3 (IG fr3) st3 stop) λr s4 ⟨hr,I4⟩=>?_)
  subst hr
  exact wpAny_execs_nil ⟨σ3,H3,I4,qn⟩
 ·refine ef hp (thn (T.item X rfl rfl rfl hc i pins s3 σ3 H3 X.xe I3 (IG fr3) st3 go) λr s4 ⟨u,hr,h4⟩=>?_)
  subst hr
  refine ef hp (thn h4 λ_ s5 ⟨x,H5,I5,r5,y5,st5,fr5⟩=>?_)
  have I5':=I5.pinned (IG fr5) (T.obj _ _ st5)
  refine ef hp (thn (hg _ s5 σ3 H5 x u _ I5' r5 (step x H5 y5)) λ_ s6 ⟨σ6,H6,I6,q6⟩=>?_)
  refine ef hp (thn (hb _ s6 σ6 H6 _ I6 q6) λf s7 q7=>?_)
  have again:∀ {σ7:St}{H7:Hp},Inv X (pins++rm fp s5.heap) σ7 H7 s7->N σ7 H7->∃ m,m<n/\∃ i σ' H',Inv X pins σ' H' s7/\tn i s7.heap/\(∀ b∈fp,H' b=none)/\W i m σ' H':=λ{σ7 H7} I7 n7=>by
   obtain⟨m',hm,w7⟩:=hN σ7 H7 n7
   refine⟨m',hm,i+1,σ7,H7,I7.nW,T.keep _ _ _ st5 λb hb o e=>(I7.pin (b,o) (aF _ (aF _ (jC hb e)))).1,λb hb=>?_,w7⟩
   obtain⟨o,e,d⟩:=T.obj _ _ st5 b hb
   exact(I7.pin (b,o) (aF _ (aF _ (jC hb e)))).2.1
  cases f with
  |next=>obtain⟨σ7,H7,I7,n7⟩:=q7;exact again I7 n7
  |cont=>obtain⟨σ7,H7,I7,n7⟩:=q7;exact again I7 n7
  |brk=>obtain⟨σ7,H7,I7,q7⟩:=q7;exact⟨σ7,H7,I7.nW,q7⟩
  |ret v=>obtain⟨x7,σ7,H7,I7,r7,q7⟩:=q7;exact⟨x7,σ7,H7,I7.nW,r7,q7⟩
end
theorem jE {xs:List V}{g:TG}{tb:TS}{D:Ends}(Pv:Nat->St->Hp->Prop)(h0:Pv 0 σ H)(hl:∀ i σ H,i<=xs.length->Pv i σ H->SqL K H a xs)
  (hs:∀ i x σ H,xs[i]? = some x->Pv i σ H->g x σ H λσ2 H2=>tb {D with nx:=Pv (i+1),ct:=Pv (i+1),bk:=D.nx} σ2 H2) (hd:∀ σ H,Pv xs.length σ H->D.nx σ H):
  ∃ W:Nat->Nat->St->Hp->Prop,(∃ m,W 0 m σ H)/\∀ i m σ H,W i m σ H->
   ((Itl K a).stop i H/\D.nx σ H)\/((Itl K a).go i H/\∃ N:St->Hp->Prop,(∀ σ' H',N σ' H'->∃ m',m'<m/\W (i+1) m' σ' H')/\∀ x H',(Itl K a).yld i H x H'->g x σ H' λσ2 H2=>tb {D with nx:=N,ct:=N,bk:=D.nx} σ2 H2):=by
 refine⟨λi m σ H=>m=xs.length-i/\i<=xs.length/\Pv i σ H,⟨xs.length,by simp,aV _,h0⟩,?_⟩
 rintro i m σ H ⟨rfl,hi,p⟩
 have q:=hl i σ H hi p
 by_cases hlt:i<xs.length
 ·refine .inr ⟨⟨xs,xs[i],q,by simp[hlt]⟩,Pv (i+1),λσ' H' p'=>⟨xs.length-(i+1),by omega,rfl,hlt,p'⟩,λx H' y=>?_⟩
  obtain⟨e,y⟩:=y
  subst e
  exact hs i x σ _ (y xs q) p
 ·have e:i=xs.length:=by omega
  subst e
  exact .inl ⟨⟨xs,q,aw _⟩,hd σ H p⟩
theorem tD {lo:Int}{n:Nat}{g:TG}{tb:TS}{D:Ends}(Pv:Nat->St->Hp->Prop)(h0:Pv 0 σ H)
  (hs:∀ i σ H,i<n->Pv i σ H->g (.int (lo+i)) σ H λσ2 H2=>tb {D with nx:=Pv (i+1),ct:=Pv (i+1),bk:=D.nx} σ2 H2) (hd:∀ σ H,Pv n σ H->D.nx σ H):
  ∃ W:Nat->Nat->St->Hp->Prop,(∃ m,W 0 m σ H)/\∀ i m σ H,W i m σ H->
   ((Itr lo n).stop i H/\D.nx σ H)\/((Itr lo n).go i H/\∃ N:St->Hp->Prop,(∀ σ' H',N σ' H'->∃ m',m'<m/\W (i+1) m' σ' H')/\∀ x H',(Itr lo n).yld i H x H'->g x σ H' λσ2 H2=>tb {D with nx:=N,ct:=N,bk:=D.nx} σ2 H2):=by
 refine⟨λi m σ H=>m=n-i/\i<=n/\Pv i σ H,⟨n,by simp,aV _,h0⟩,?_⟩
 rintro i m σ H ⟨rfl,hi,p⟩
 by_cases hlt:i<n
 ·refine .inr ⟨hlt,Pv (i+1),λσ' H' p'=>⟨n-(i+1),by omega,rfl,hlt,p'⟩,λx H' y=>?_⟩
  obtain⟨e,y⟩:=y
  subst e y
  exact hs i σ _ hlt p
 ·have e:i=n:=by omega
  subst e
  exact .inl ⟨aw _,hd σ H p⟩
noncomputable abbrev R2:=V->V->Hp->VK->Prop
noncomputable def OpR (X:Cx)(f:Value->Value->Sem Value)(r:R2):Prop:=
 ∀ (pins:List (Addr×Obj)) (s:Shared) (σ:St) (H:Hp) (x y:V) (v u:Value) (Q:VK),Inv X pins σ H s->RelV x v->RelV y u->r x y H Q->
  wpAny (model X.prog X.w) X.A (f v u) (EP X pins σ Q) X.xe s
noncomputable def UnR (X:Cx)(f:Value->Sem Value)(r:V->Hp->VK->Prop):Prop:=
 ∀ (pins:List (Addr×Obj)) (s:Shared) (σ:St) (H:Hp) (x:V) (v:Value) (Q:VK),Inv X pins σ H s->RelV x v->r x H Q->
  wpAny (model X.prog X.w) X.A (f v) (EP X pins σ Q) X.xe s
noncomputable def jY (X:Cx)(f:Value)(r:List V->Hp->VK->Prop):Prop:=
 ∀ (pins:List (Addr×Obj)) (s:Shared) (σ:St) (H:Hp) (xs:List V) (us:List Value) (Q:VK),Inv X pins σ H s->Vals xs us->r xs H Q->
  wpAny (model X.prog X.w) X.A (call f us) (EP X pins σ Q) X.xe s
noncomputable def W9 (X:Cx)(r:V->Hp->(Bool->Hp->Prop)->Prop):Prop:=
 ∀ (pins:List (Addr×Obj)) (s:Shared) (σ:St) (H:Hp) (x:V) (v:Value) (Q:Bool->Hp->Prop),Inv X pins σ H s->RelV x v->r x H Q->
  wpAny (model X.prog X.w) X.A (truthy v) (TP X pins σ Q) X.xe s
noncomputable def tOp (r:R2)(ta tb:TE):TE:=λσ H Q=>ta σ H λx H1=>tb σ H1 λy H2=>r x y H2 Q
noncomputable def tUn (r:V->Hp->VK->Prop)(ta:TE):TE:=λσ H Q=>ta σ H λx H1=>r x H1 Q
noncomputable def rI (C:Int->Int->Prop)(g:Int->Int->V):R2:=λx y H Q=>∃ i j,x = .int i/\y = .int j/\C i j/\Q (g i j) H
noncomputable def rI0 (g:Int->Int->V):R2:=λx y H Q=>∃ i j,x = .int i/\y = .int j/\Q (g i j) H
noncomputable def rU (g:Int->V):V->Hp->VK->Prop:=λx H Q=>∃ i,x = .int i/\Q (g i) H
section
variable {X:Cx}{a b c:Expr}{ta tb tc:TE}{pos:Pos}
theorem JN (ha:PE X a ta)(hb:PE X b tb){R:V->V->Hp->Prop}(I:Inv X pins σ H s)
  (h:ta σ H λx H1=>tb σ H1 λy H2=>R x y H2) {Q:Value->Shared->Prop}{f:Value->Value->Sem Value}
  (hf:∀ v u s2 x y H2,Inv X pins σ H2 s2->RelV x v->RelV y u->R x y H2->wpAny (model X.prog X.w) X.A (f v u) Q X.xe s2):
  wpAny (model X.prog X.w) X.A (eval a X.env) (λv s₁=>wpAny (model X.prog X.w) X.A (eval b X.env) (λu s₂=>wpAny (model X.prog X.w) X.A (f v u) Q X.xe s₂) X.xe s₁) X.xe s:=by
 refine thn (ha pins s σ H _ I h) λv s1 ⟨x,H1,I1,r1,q1⟩=>?_
 refine thn (hb pins s1 σ H1 _ I1 q1) λu s2 ⟨y,H2,I2,r2,q2⟩=>?_
 exact hf v u s2 x y H2 I2 r1 r2 q2
theorem eY {op:Operator}{r:R2}(ho:OpR X (binaryOp op) r)(ha:PE X a ta)(hb:PE X b tb):PE X (.BinOp a op b pos) (tOp r ta tb):=by
 intro pins s σ H Q I h
 exact wpAny_BinOp (JN ha hb I h λv u s2 x y H2 I2 rx ry q=>ho pins s2 σ H2 x y v u Q I2 rx ry q)
theorem pY {op:UnaryOp}{r:V->Hp->VK->Prop}(ho:UnR X (unaryOp op) r)(ha:PE X a ta):PE X (.UnaryOp op a pos) (tUn r ta):=by
 intro pins s σ H Q I h
 exact UnaryOp_ (thn (ha pins s σ H _ I h) λv s1 ⟨x,H1,I1,r1,q1⟩=>ho pins s1 σ H1 x v Q I1 r1 q1)
theorem opI {f:Value->Value->Sem Value}{C:Int->Int->Prop}{g:Int->Int->Int}
  (rule:∀ (i j:Int) (t u:Tok) (s:Shared) (Q:Value->Shared->Prop) (E:Value->Shared->Prop),C i j->Q (.int (g i j) s.toks) {s with toks:=s.toks+1} ->wpAny (model X.prog X.w) X.A (f (.int i t) (.int j u)) Q E s):
  OpR X f (rI C λi j=>.int (g i j)):=by
 intro pins s σ H x y v u Q I rx ry h
 obtain⟨i,j,rfl,rfl,hc,q⟩:=h
 obtain⟨t,rfl⟩:=rx
 obtain⟨t',rfl⟩:=ry
 exact rule i j t t' s _ _ hc ⟨.int (g i j),H,I.tok _,⟨_,rfl⟩,q⟩
theorem Ja {f:Value->Value->Sem Value}{g:Int->Int->Int}
  (rule:∀ (i j:Int) (t u:Tok) (s:Shared) (Q:Value->Shared->Prop) (E:Value->Shared->Prop),Q (.int (g i j) s.toks) {s with toks:=s.toks+1} ->wpAny (model X.prog X.w) X.A (f (.int i t) (.int j u)) Q E s):
  OpR X f (rI0 λi j=>.int (g i j)):=by
 intro pins s σ H x y v u Q I rx ry h
 obtain⟨i,j,rfl,rfl,q⟩:=h
 obtain⟨t,rfl⟩:=rx
 obtain⟨t',rfl⟩:=ry
 exact rule i j t t' s _ _ ⟨.int (g i j),H,I.tok _,⟨_,rfl⟩,q⟩
theorem Kw {f:Value->Value->Sem Value}{g:Int->Int->Bool}
  (rule:∀ (i j:Int) (t u:Tok) (s:Shared) (Q:Value->Shared->Prop) (E:Value->Shared->Prop),Q (.bool (g i j)) s->wpAny (model X.prog X.w) X.A (f (.int i t) (.int j u)) Q E s):
  OpR X f (rI0 λi j=>.bl (g i j)):=by
 intro pins s σ H x y v u Q I rx ry h
 obtain⟨i,j,rfl,rfl,q⟩:=h
 obtain⟨t,rfl⟩:=rx
 obtain⟨t',rfl⟩:=ry
 exact rule i j t t' s _ _ ⟨.bl (g i j),H,I,rfl,q⟩
noncomputable def Xb (i j:Int):Prop:=0<j/\j<1073741824
noncomputable def Xa (i j:Int):Prop:=0<=j/\j<=1000000/\i.natAbs<2 ^ 64
noncomputable def JU (i j:Int):Prop:=(-(2 ^ 64)<i/\i<2 ^ 64)\/(-(2 ^ 64)<j/\j<2 ^ 64)
theorem JU.ok {i j:Int}(h:JU i j):IntMulOk i j:=by
 rcases h with⟨h1,h2⟩|⟨h1,h2⟩
 ·exact .of_left (intBits_le_64 h1 h2)
 ·exact .of_right (intBits_le_64 h1 h2)
theorem iI:OpR X (binaryOp .Add) (rI0 λi j=>.int (i+j)):=Ja λ_ _ _ _ _ _ _ q=>add_int q
theorem sR:OpR X (binaryOp .Sub) (rI0 λi j=>.int (i-j)):=Ja λ_ _ _ _ _ _ _ q=>sub_int q
theorem jm:OpR X (binaryOp .Mult) (rI JU λi j=>.int (i*j)):=opI λ_ _ _ _ _ _ _ hc q=>mul_int q hc.ok
theorem gg:OpR X (binaryOp .FloorDiv) (rI Xb λi j=>.int (i/j)):=opI λi j _ _ _ _ _ hc q=>by
 have h1:(0:Int)<j:=hc.1
 have h2:j<1073741824:=hc.2
 exact floordiv_int (by omega) (by rw[Int.fdiv_eq_ediv_of_nonneg i (by omega)];exact q) (.inl (PyProof.noPylong_small (by omega)))
theorem gk:OpR X (binaryOp .Mod) (rI (λ_ j=>0<j) λi j=>.int (i%j)):=opI λi j _ _ _ _ _ hc q=>by
 have h1:(0:Int)<j:=hc
 exact mod_int' (by omega) (by rw[Int.fmod_eq_emod_of_nonneg i (by omega)];exact q)
theorem Bw:OpR X (binaryOp .Pow) (rI Xa λi j=>.int (i ^ j.toNat)):=opI λ_ _ _ _ _ _ _ hc q=>pow_int_small hc.1 hc.2.1 hc.2.2 q
theorem IY:OpR X (binaryOp .BitXor) (rI0 λi j=>.int (Builtin.bitXor i j)):=Ja λ_ _ _ _ _ _ _ q=>xor_int q
theorem unI {f:Value->Sem Value}{g:Int->Int}
  (rule:∀ (i:Int) (t:Tok) (s:Shared) (Q:Value->Shared->Prop) (E:Value->Shared->Prop),Q (.int (g i) s.toks) {s with toks:=s.toks+1} ->wpAny (model X.prog X.w) X.A (f (.int i t)) Q E s):
  UnR X f (rU λi=>.int (g i)):=by
 intro pins s σ H x v Q I rx h
 obtain⟨i,rfl,q⟩:=h
 obtain⟨t,rfl⟩:=rx
 exact rule i t s _ _ ⟨.int (g i),H,I.tok _,⟨_,rfl⟩,q⟩
theorem mC:UnR X (unaryOp .USub) (rU λi=>.int (-i)):=unI λ_ _ _ _ _ q=>neg_int q
end
noncomputable def Kn:V->V->Bool
 |.non,.non=>true |.non,.int _=>true |.int _,.non=>true |.non,.bl _=>true |.bl _,.non=>true |.non,.str _=>true |.str _,.non=>true
 |.int _,.int _=>true |.bl _,.bl _=>true |.str _,.str _=>true |.byt _,.byt _=>true
 |.int _,.str _=>true |.str _,.int _=>true |.bl _,.str _=>true |.str _,.bl _=>true
 |_,_=>false
noncomputable def rEq:R2:=λx y H Q=>Kn x y=true/\Q (.bl (decide (x=y))) H
noncomputable def rNe:R2:=λx y H Q=>Kn x y=true/\Q (.bl (!decide (x=y))) H
theorem CV {i j:Int} :decide (V.int i=V.int j)=(i==j):=by
 rw[bT]
 simp
theorem GB {i j:Bool} :decide (V.bl i=V.bl j)=(i==j):=by
 rw[bT]
 simp
theorem CU {i j:Str} :decide (V.str i=V.str j)=(i==j):=by
 rw[bT]
 simp
theorem CW {i j:Array UInt8} :decide (V.byt i=V.byt j)=(i.toList==j.toList):=by
 rw[bT]
 cases i
 cases j
 simp
section
variable {X:Cx}{a b c:Expr}{ta tb tc:TE}{pos:Pos}
theorem gD {Q:VK}{k k':Bool}(I:Inv X pins σ H s)(q:Q (.bl k) H)(e:k=k'):EP X pins σ Q (.bool k') s:=by
 subst e
 exact⟨.bl k,H,I,rfl,q⟩
theorem oi:OpR X (compareOp .Eq) rEq:=by
 intro pins s σ H x y v u Q I rx ry h
 obtain⟨hs,q⟩:=h
 cases x with
 |non=>
  cases rx
  cases y with
  |non=>cases ry;exact PySem.EqNone.eq_none_none (gD I q (by simp))
  |bl j=>cases ry;exact PySem.EqNone.eq_none_bool (gD I q (by simp))
  |int j=>obtain⟨t',rfl⟩:=ry;exact PySem.EqNone.eq_none_int (gD I q (by simp))
  |str j=>obtain⟨t',rfl⟩:=ry;exact PySem.EqNone.eq_none_str (gD I q (by simp))
  |_=>exact absurd (show false=true from hs) ax
 |bl i=>
  cases rx
  cases y with
  |non=>cases ry;exact PySem.EqNone.eq_bool_none (gD I q (by simp))
  |bl j=>cases ry;exact eq_bool (gD I q GB)
  |str j=>obtain⟨t',rfl⟩:=ry;exact PySem.EqMixed.eq_bool_str (gD I q (by simp))
  |_=>exact absurd (show false=true from hs) ax
 |int i=>
  obtain⟨t,rfl⟩:=rx
  cases y with
  |non=>cases ry;exact PySem.EqNone.eq_int_none (gD I q (by simp))
  |int j=>obtain⟨t',rfl⟩:=ry;exact eq_int (gD I q CV)
  |str j=>obtain⟨t',rfl⟩:=ry;exact PySem.EqMixed.eq_int_str (gD I q (by simp))
  |_=>exact absurd (show false=true from hs) ax
 |str i=>
  obtain⟨t,rfl⟩:=rx
  cases y with
  |non=>cases ry;exact PySem.EqNone.eq_str_none (gD I q (by simp))
  |bl j=>cases ry;exact PySem.EqMixed.eq_str_bool (gD I q (by simp))
  |int j=>obtain⟨t',rfl⟩:=ry;exact PySem.EqMixed.eq_str_int (gD I q (by simp))
  |str j=>obtain⟨t',rfl⟩:=ry;exact eq_str (gD I q CU)
  |_=>exact absurd (show false=true from hs) ax
 |byt i=>
  obtain⟨t,rfl⟩:=rx
  cases y with
  |byt j=>obtain⟨t',rfl⟩:=ry;exact PySem.W.eq_bytes (gD I q CW)
  |_=>exact absurd (show false=true from hs) ax
 |_=>cases y<;>exact absurd (show false=true from hs) ax
theorem tY:OpR X (compareOp .NotEq) rNe:=by
 intro pins s σ H x y v u Q I rx ry h
 obtain⟨hs,q⟩:=h
 cases x with
 |non=>
  cases rx
  cases y with
  |non=>cases ry;exact PySem.EqNone.ne_none_none (gD I q (by simp))
  |bl j=>cases ry;exact PySem.EqNone.ne_none_bool (gD I q (by simp))
  |int j=>obtain⟨t',rfl⟩:=ry;exact PySem.EqNone.ne_none_int (gD I q (by simp))
  |str j=>obtain⟨t',rfl⟩:=ry;exact PySem.EqNone.ne_none_str (gD I q (by simp))
  |_=>exact absurd (show false=true from hs) ax
 |bl i=>
  cases rx
  cases y with
  |non=>cases ry;exact PySem.EqNone.ne_bool_none (gD I q (by simp))
  |bl j=>cases ry;exact ne_bool (gD I q (bF not GB))
  |str j=>obtain⟨t',rfl⟩:=ry;exact PySem.EqMixed.ne_bool_str (gD I q (by simp))
  |_=>exact absurd (show false=true from hs) ax
 |int i=>
  obtain⟨t,rfl⟩:=rx
  cases y with
  |non=>cases ry;exact PySem.EqNone.ne_int_none (gD I q (by simp))
  |int j=>obtain⟨t',rfl⟩:=ry;exact ne_int (gD I q (bF not CV))
  |str j=>obtain⟨t',rfl⟩:=ry;exact PySem.EqMixed.ne_int_str (gD I q (by simp))
  |_=>exact absurd (show false=true from hs) ax
 |str i=>
  obtain⟨t,rfl⟩:=rx
  cases y with
  |non=>cases ry;exact PySem.EqNone.ne_str_none (gD I q (by simp))
  |bl j=>cases ry;exact PySem.EqMixed.ne_str_bool (gD I q (by simp))
  |int j=>obtain⟨t',rfl⟩:=ry;exact PySem.EqMixed.ne_str_int (gD I q (by simp))
  |str j=>obtain⟨t',rfl⟩:=ry;exact ne_str (gD I q (bF not CU))
  |_=>exact absurd (show false=true from hs) ax
 |byt i=>
  obtain⟨t,rfl⟩:=rx
  cases y with
  |byt j=>obtain⟨t',rfl⟩:=ry;exact PySem.W.ne_bytes (gD I q (bF not CW))
  |_=>exact absurd (show false=true from hs) ax
 |_=>cases y<;>exact absurd (show false=true from hs) ax
theorem HU:OpR X (compareOp .Lt) (rI0 λi j=>.bl (decide (i<j))):=Kw λ_ _ _ _ _ _ _ q=>lt_int q
theorem HV:OpR X (compareOp .LtE) (rI0 λi j=>.bl (decide (i<=j))):=Kw λ_ _ _ _ _ _ _ q=>le_int q
theorem DM:OpR X (compareOp .In) (λx y H Q=>∃ i j,x = .str i/\y = .str j/\Q (.bl (!(Builtin.Str.occurrences j i 0 j.length 1).isEmpty)) H):=by
 intro pins s σ H x y v u Q I rx ry h
 obtain⟨i,j,rfl,rfl,q⟩:=h
 obtain⟨t,rfl⟩:=rx
 obtain⟨t',rfl⟩:=ry
 exact in_str (gD I q rfl)
theorem gZ (b:Expr){op:CmpOp}(h:op≠ .In:=by decide)(h2:op≠ .NotIn:=by decide):behindInMarks op b=false:=by
 have e1:(op==CmpOp.In)=false:=by cases op<;>first |rfl |exact absurd rfl h
 have e2:(op==CmpOp.NotIn)=false:=by cases op<;>first |rfl |exact absurd rfl h2
 cases b<;>simp[behindInMarks,e1,e2]
theorem uP {op:CmpOp}{r:R2}(ho:OpR X (compareOp op) r)(ha:PE X a ta)(hb:PE X b tb)(hm:behindInMarks op b=false):PE X (.Compare a [op] [b] pos) (tOp r ta tb):=by
 intro pins s σ H Q I h
 exact wpAny_Compare1 (JN ha hb I h λv u s2 x y H2 I2 rx ry q=>ho pins s2 σ H2 x y v u Q I2 rx ry q) hm
noncomputable def J8 (t:TE):TT:=λσ H Q=>t σ H λx H'=>∃ k,x = .bl k/\Q k H'
theorem fL {op:CmpOp}{r:R2}(ho:OpR X (compareOp op) r)(ha:PE X a ta)(hb:PE X b tb)(hm:behindInMarks op b=false):PT X (.Compare a [op] [b] pos) (J8 (tOp r ta tb)):=by
 intro pins s σ H Q I h
 refine wpAny_isTrue_Compare1 (thn (ha pins s σ H _ I h) λv s1 ⟨x,H1,I1,r1,q1⟩=>thn (hb pins s1 σ H1 _ I1 q1) λu s2 ⟨y,H2,I2,r2,q2⟩=>
  thn (ho pins s2 σ H2 x y v u _ I2 r1 r2 q2) λc s3 ⟨z,H3,I3,r3,k,e,q3⟩=>?_) hm
 subst e
 cases r3
 exact bU ⟨H3,I3,q3⟩
noncomputable def ID (r r':R2)(ta tb tc:TE):TE:=λσ H Q=>ta σ H λx H1=>tb σ H1 λy H2=>r x y H2 λz H3=>∃ k,z = .bl k/\
 (if k=true then tc σ H3 λw' H4=>r' y w' H4 Q else Q (.bl false) H3)
theorem Af {op':CmpOp}{r r':R2}(ho:OpR X (compareOp op) r)(ho':OpR X (compareOp op') r')(ha:PE X a ta)(hb:PE X b tb)(hc:PE X c tc)
  (hm:lastMarks [op,op'] [b,c]=false:=by with_unfolding_all rfl):PE X (.Compare a [op,op'] [b,c] pos) (ID r r' ta tb tc):=by
 intro pins s σ H Q I h
 refine Compare_chain (thn (ha pins s σ H _ I h) λv s1 ⟨x,H1,I1,r1,q1⟩=>chain_link (thn (hb pins s1 σ H1 _ I1 q1) λu s2 ⟨y,H2,I2,r2,q2⟩=>
  thn (ho pins s2 σ H2 x y v u _ I2 r1 r2 q2) λd s3 ⟨z,H3,I3,r3,k,e,q3⟩=>?_)) hm
 subst e
 cases r3
 refine bU ?_
 cases k with
 |false=>exact ite_ff ⟨.bl false,H3,I3,rfl,q3⟩
 |true=>exact ite_tt (chain_last (thn (hc pins s3 σ H3 _ I3 q3) λw' s4 ⟨z',H4,I4,r4,q4⟩=>ho' pins s4 σ H4 y z' u w' Q I4 r2 r4 q4))
noncomputable def Lo (K:PySem.W.Frag)(x:V)(H:Hp)(k:Bool):Prop:=
 match x with
 |.non=>k=false
 |.bl b=>k=b
 |.int i=>k=(i !=0)
 |.str y=>y.length<=sizeLine/\k=((y.length:Int) !=0)
 |.byt y=>y.size<=sizeLine/\k=((y.size:Int) !=0)
 |.ref p=>(∃ xs,SqL K H p xs/\k = !xs.isEmpty)\/(∃ xs,SqT K H p xs/\k = !xs.isEmpty)\/∃ kvs,H p=some (.dK kvs)/\k = !kvs.isEmpty
 |_=>False
theorem BK {κ:Type}{kvs:List (κ×V)}{vs:List (κ×Value)}(r:KV kvs vs):(!vs.isEmpty) = !kvs.isEmpty:=by
 cases r<;>rfl
theorem vV {xs:List V}{its:List Value}(r:Vals xs its):(!its.toArray.isEmpty) = !xs.isEmpty:=by
 cases r<;>simp
theorem sY:(sizeLine:Nat)<2 ^ 63:=by rw[aE];decide
theorem Iz:W9 X (λx H Q=>∃ k,Lo X.K x H k/\Q k H):=by
 intro pins s σ H x v Q I rx h
 obtain⟨k,e,q⟩:=h
 have hl:=sY
 have hs:sizeLine=16777216:=aE
 cases x with
 |non=>
  cases rx
  have e':k=false:=e
  subst e'
  exact truthy_none ⟨H,I,q⟩
 |bl b=>
  cases rx
  have e':k=b:=e
  subst e'
  exact bU ⟨H,I,q⟩
 |int i=>
  obtain⟨t,rfl⟩:=rx
  have e':k=(i !=0):=e
  subst e'
  exact PySem.P.truthy_int ⟨H,I,q⟩
 |str y=>
  obtain⟨t,rfl⟩:=rx
  obtain⟨hy,e'⟩:y.length<=sizeLine/\k=((y.length:Int) !=0):=e
  subst e'
  exact PySem.P.truthy_str (by omega) ⟨H,I.tok _,q⟩
 |byt y=>
  obtain⟨t,rfl⟩:=rx
  obtain⟨hy,e'⟩:y.size<=sizeLine/\k=((y.size:Int) !=0):=e
  subst e'
  exact PySem.W.truthy_bytes (by omega) ⟨H,I.tok _,q⟩
 |ref p=>
  cases rx
  have e':(∃ xs,SqL X.K H p xs/\k = !xs.isEmpty)\/(∃ xs,SqT X.K H p xs/\k = !xs.isEmpty)\/∃ kvs,H p=some (.dK kvs)/\k = !kvs.isEmpty:=e
  rcases e' with⟨xs,hx,e'⟩|⟨xs,hx,e'⟩|⟨kvs,hx,e'⟩
  ·subst e'
   obtain⟨its,r,pl,hz⟩:=I.list hx
   have hlen:=r.length
   exact wpAny_truthy_list pl.isList (by simp only[aJ];omega) ⟨H,I.tok _,by rw[vV r];exact q⟩
  ·subst e'
   obtain⟨its,r,pl,hz⟩:=I.tuple hx
   have hlen:=r.length
   exact truthy_tuple pl (by simp only[aJ];omega) ⟨H,I.tok _,by rw[vV r];exact q⟩
  ·subst e'
   obtain⟨hz,hS,vs,r,m⟩:kvs.length<=sizeLine/\(p==sysModules)=false/\∃ vs,KV kvs vs/\s.heap.DictOf (gq X.prog X.w) p vs:=I.hok p _ hx
   have hlen:kvs.length=vs.length:=Paired.length r
   exact wpAny_truthy_dict hS m (by omega) ⟨H,I.tok _,by rw[BK r];exact q⟩
 |_=>exact(show False from e).elim
theorem pX (ha:PE X a ta)(he:∀ whole,isTrue a X.env whole=(do let v <-whole;standAt a.pos;holding [v] (truthy v))):
  PT X a (λσ H Q=>ta σ H λx H'=>∃ k,Lo X.K x H' k/\Q k H'):=by
 intro pins s σ H Q I h
 exact isTrue_plain (thn (ha pins s σ H _ I h) λv s1 ⟨x,H1,I1,r1,q1⟩=>Iz pins s1 σ H1 x v Q I1 r1 q1) (he _)
theorem fV:OpR X (binaryOp .Add) (λx y H Q=>∃ i j,x = .str i/\y = .str j/\i.length+j.length<=sizeLine/\Q (.str (i++j)) H):=by
 intro pins s σ H x y v u Q I rx ry h
 obtain⟨i,j,rfl,rfl,hz,q⟩:=h
 obtain⟨t,rfl⟩:=rx
 obtain⟨t',rfl⟩:=ry
 exact add_str (λt' tk=>⟨.str (i++j),H,I.tok _,⟨_,rfl⟩,q⟩) hz
theorem vals1 {x:V}(r:Vals [x] us):∃ u,us = [u]/\RelV x u:=by
 cases r with
 |cons r1 r2=>cases r2;exact⟨_,rfl,r1⟩
theorem vals2 {x y:V}(r:Vals [x,y] us):∃ u w',us = [u,w']/\RelV x u/\RelV y w':=by
 cases r with
 |cons r1 r2=>
  cases r2 with
  |cons r3 r4=>cases r4;exact⟨_,_,rfl,r1,r3⟩
theorem Ey (hc:X.calm=true):jY X (.builtin "max") (λxs H Q=>∃ i j,xs = [.int i,.int j]/\Q (.int (if j>i then j else i)) H):=by
 intro pins s σ H xs us Q I r h
 obtain⟨i,j,rfl,q⟩:=h
 obtain⟨u,w',rfl,⟨t,rfl⟩,⟨t',rfl⟩⟩:=vals2 r
 refine max_two_ints (I.ok.hd hc) λh' tk k=>⟨_,H,I.kept k,?_,q⟩
 by_cases hj:j>i
 ·rw[av hj,av hj];exact⟨_,rfl⟩
 ·rw[ak hj,ak hj];exact⟨_,rfl⟩
theorem Ew (hc:X.calm=true):jY X (.builtin "min") (λxs H Q=>∃ i j,xs = [.int i,.int j]/\Q (.int (if j<i then j else i)) H):=by
 intro pins s σ H xs us Q I r h
 obtain⟨i,j,rfl,q⟩:=h
 obtain⟨u,w',rfl,⟨t,rfl⟩,⟨t',rfl⟩⟩:=vals2 r
 refine min_two_ints (I.ok.hd hc) λh' tk k=>⟨_,H,I.kept k,?_,q⟩
 by_cases hj:j<i
 ·rw[av hj,av hj];exact⟨_,rfl⟩
 ·rw[ak hj,ak hj];exact⟨_,rfl⟩
theorem oy:jY X (.type "int") (λxs H Q=>(∃ i,xs = [.int i]/\Q (.int i) H)\/∃ k,xs = [.bl k]/\Q (.int (if k then 1 else 0)) H):=by
 intro pins s σ H xs us Q I r h
 rcases h with⟨i,rfl,q⟩|⟨k,rfl,q⟩
 ·obtain⟨u,rfl,t,rfl⟩:=vals1 r
  exact call_int_int ⟨.int i,H,I,⟨_,rfl⟩,q⟩
 ·obtain⟨u,rfl,r1⟩:=vals1 r
  cases r1
  exact call_int_bool ⟨.int (if k then 1 else 0),H,I.tok _,⟨_,rfl⟩,q⟩
theorem mq:jY X (.type "str") (λxs H Q=>∃ i,xs = [.int i]/\i.natAbs.log2<1920/\Q (.str (toString i)) H):=by
 intro pins s σ H xs us Q I r h
 obtain⟨i,rfl,hz,q⟩:=h
 obtain⟨u,rfl,t,rfl⟩:=vals1 r
 exact PySem.P.str_of_int hz ⟨.str _,H,I.tok _,⟨_,rfl⟩,q⟩
end
structure BW (h:Heap)(x dx C:Addr)(mA:Str->Option Value):Prop where
 obj:h.get? x=some (PySem.W.instObj C dx)
 ns:h.Ns1 dx mA
 ne:dx≠x
theorem DZ {dx:Addr}{mA:Str->Option Value}(n:h.Ns1 dx mA):∃ od,h.get? dx=some od/\∀ name,PySem.W.lookIn name od=some (mA name):=by
 obtain⟨o,es,ep,ho,hd,hk,_,hm⟩:=n
 refine⟨o,ho,λname=>?_⟩
 have e:=hm name
 unfold nsFind findBy at e
 rw[<-Array.find?_toList]at e
 unfold PySem.W.lookIn
 rw[hd]
 dsimp only
 split
 ·rename_i y q
  rw[q]at e
  exact bF some e
 ·rename_i q
  rw[q]at e
  have a:es.toList.any (·.refKey)=false:=by
   rw[List.any_eq_false]
   intro y hy
   obtain⟨z,t,Gg⟩:=hk y (dB.mp hy)
   simp[DictEntry.refKey,Gg]
  have a':¬es.toList.any (·.refKey)=true:=by rw[a];exact ax
  rw[ak a']
  exact bF some e
theorem BW.look {x dx C:Addr}{mA:Str->Option Value}(I:BW h x dx C mA):∃ od,PySem.W.InstAt h x (PySem.W.instObj C dx) C (some od)/\∀ name,PySem.W.lookIn name od=some (mA name):=
 let ⟨od,ho,hl⟩:=DZ I.ns
 ⟨od,⟨I.obj,rfl,rfl,ho⟩,hl⟩
variable {kw:List (Str×Value)}
section
variable {prog:Program}{w:World}{A:Around}{E:Value->Shared->Prop}{s:Shared}{K:PySem.W.Frag}{x dx C f:Addr}{mA:Str->Option Value}{name:Str}{v:Value}
theorem get_map {expr:Bool}(X:K.In s.heap)(I:BW s.heap x dx C mA)(hg:PySem.W.plainGet K C name=true)(hh:PySem.W.hasDictIn K C=true)
  (ha:PySem.W.findIn K (.ref C) name=some none) (hv:mA name=some v) (hv':PySem.W.handedIn v=true) (h:Q v {s with toks:=s.toks+1}):
  wpAny (model prog w) A (getAttr (.ref x) name expr) Q E s:=by
 obtain⟨od,J,hl⟩:=I.look
 exact PySem.W.get_value X J (PySem.W.plainGet_of hg).1 (PySem.W.findObj_own hh ha rfl (by rw[hl,hv])) hv' h
theorem Gm {pl:Sem Bool}{Q:Value×List Value->Shared->Prop}(X:K.In s.heap)(I:BW s.heap x dx C mA)(hg:PySem.W.plainGet K C name=true)
  (hf:PySem.W.findIn K (.ref C) name=some (some (.ref f))) (ht:PySem.W.isFn K (.ref f)=true) (hv:mA name=none) (h:Q (.ref f,[.ref x]) s):
  wpAny (model prog w) A (getMethod (.ref x) name pl) Q E s:=by
 obtain⟨od,J,hl⟩:=I.look
 exact PySem.W.method_fn X J (PySem.W.plainGet_of hg).1 (PySem.W.plainGet_of hg).2 hf (cG.mp ht) (by show(PySem.W.lookIn name od).map (·.isSome)=some false;rw[hl,hv];rfl) h
theorem GV {ns:List Str}{Q:Unit->Shared->Prop}(X:K.In s.heap)(I:BW s.heap x dx C mA)
  (hs:PySem.W.findIn K (.ref C) "__setattr__" = some (some (.builtin "object.__setattr__"))) (hp:PySem.W.plainOver K C=true) (ht:PySem.W.takerIn K C name=some none) (hh:PySem.W.hasDictIn K C=true)
  (hw:PySem.Within mA ns) (hsz:ns.length<=sizeLine)
  (h:∀ h',BW h' x dx C (λy=>if y=name then some v else mA y)->Heap.SameBut dx s.heap h'->Q () {s with heap:=h',toks:=s.toks+2}):
  wpAny (model prog w) A (setAttr (.ref x) name v) Q E s:=by
 obtain⟨od,J,hl⟩:=I.look
 refine PySem.W.set_plain X J hs (PySem.W.osa_open (s:={s with toks:=s.toks+1}) (r:=none) X J hp ht λb=>?_)
 obtain⟨cd,hc,hd'⟩:=PySem.W.any_some hh
 have hx:s.heap.get? x=some ⟨.ref C,some dx,.plain,#[]⟩:=I.obj
 refine ae (ao (ae (ae (wpAny_loadPart hx (ae (PySem.W.Looks.here (s:={s with toks:=s.toks+1}) (PySem.W.looks_clsIn X hc) ?_))))))
 rw[hd']
 refine ao (a:=some dx) (ae (ao (ae ?_)))
 refine wpAny_nsSet1 (s:={s with toks:=s.toks+1}) I.ns λh' hn2 hs2=>?_
 obtain⟨oD,esD,epD,hoD,hdD,hcD⟩:=hn2.count (PySem.Within.cons name v hw)
 refine ae (wpAny_lookBehind hoD (by rw[hdD];exact pastItsLine_dict (aT hcD (by rw[aH];omega))) ?_)
 exact ao (h _ ⟨(hs2.2 _ (cB I.ne)).trans I.obj,hn2,I.ne⟩ hs2)
theorem FU {R:Result->Shared->Prop}{vs:List Value}(X:K.In s.heap)(hm:PySem.W.makesIn K C=true)
  (hi:PySem.W.findIn K (.ref C) "__init__" = some (some (.ref f))) (hf:PySem.W.typeIn K (.ref f)=some (.type "function"))
  (h:codeAny (model prog w) (A.under (.builtin "type.__call__" ⟨.ref C::vs,kw⟩)) (.call (.ref f) ⟨.ref (s.heap.objs.size+1)::vs,kw⟩) (PySem.W.InitBack (s.heap.objs.size+1) R)
   {s with heap:=(s.heap.push PySem.W.emptyDict).push (PySem.W.instObj C s.heap.objs.size)}):
  codeAny (model prog w) A (.call (.ref C) ⟨vs,kw⟩) R s:=by
 obtain⟨hh,g,d,t,os⟩:=s
 exact PySem.W.make_core (PySem.W.makes_of X hm) (PySem.W.looks_findIn X hi) (λself=>PySem.W.bind_fn X self hf) (.inl rfl) h
end
noncomputable def lO (f:Str)(v:V):List (Str×V)->List (Str×V)
 |[]=>[(f,v)]
 |(g,x)::r=>if g=f then(g,v)::r else(g,x)::lO f v r
theorem tZ (f g:Str)(v:V):∀ fs:List (Str×V),(lO f v fs).lookup g=if g=f then some v else fs.lookup g
 |[]=>by
  show List.lookup g [(f,v)]=_
  by_cases h:g=f
  ·have hb:(g==f)=true:=cG.mpr h
   simp only[List.lookup,hb,av h]
  ·have hb:(g==f)=false:=dC.mpr h
   simp only[List.lookup,hb,ak h]
 |(k,x)::r=>by
  have ih:=tZ f g v r
  rw[show lO f v ((k,x)::r)=(if k=f then(k,v)::r else(k,x)::lO f v r) from rfl]
  by_cases hk:k=f
  ·rw[av hk]
   by_cases h:g=k
   ·have hb:(g==k)=true:=cG.mpr h
    simp only[List.lookup,hb,av (h.trans hk)]
   ·have hb:(g==k)=false:=dC.mpr h
    simp only[List.lookup,hb,ak (λe:g=f=>h (e.trans hk.symm))]
  ·rw[ak hk]
   by_cases h:g=k
   ·have hb:(g==k)=true:=cG.mpr h
    simp only[List.lookup,hb,ak (λe:g=f=>hk (h.symm.trans e))]
   ·have hb:(g==k)=false:=dC.mpr h
    simp only[List.lookup,hb]
    exact ih
theorem sZ (f:Str)(v:V):∀ fs:List (Str×V),f∈(lO f v fs).map (·.1)/\∀ g,g∈fs.map (·.1)->g∈(lO f v fs).map (·.1)
 |[]=>⟨by simp[lO],λg h=>by simp at h⟩
 |(k,x)::r=>by
  obtain⟨i1,i2⟩:=sZ f v r
  rw[show lO f v ((k,x)::r)=(if k=f then(k,v)::r else(k,x)::lO f v r) from rfl]
  by_cases hk:k=f
  ·rw[av hk]
   subst hk
   exact⟨by simp,λg h=>by simpa using h⟩
  ·rw[ak hk]
   refine⟨?_,λg h=>?_⟩
   ·rw[aN]
    exact aq _ i1
   ·rw[aN]at h ⊢
    rcases ay.mp h with e |e
    ·exact ay.mpr (.inl e)
    ·exact aq _ (i2 g e)
theorem t7 (f:Str)(v:V):∀ fs:List (Str×V),(lO f v fs).length<=fs.length+1
 |[]=>by simp[lO]
 |(k,x)::r=>by
  have ih:=t7 f v r
  rw[show lO f v ((k,x)::r)=(if k=f then(k,v)::r else(k,x)::lO f v r) from rfl]
  by_cases hk:k=f
  ·rw[av hk,aH,aH];omega
  ·rw[ak hk,aH,aH];omega
theorem xq.some_of {v:V}{o:Option Value}(r:xq (some v) o):∃ u,o=some u/\RelV v u:=by
 cases o with
 |none=>exact(show False from r).elim
 |some u=>exact⟨u,rfl,r⟩
theorem xq.none_of {o:Option Value}(r:xq none o):o=none:=by
 cases o with
 |none=>rfl
 |some u=>exact(show False from r).elim
theorem Ei {v:V}(r:RelV v u):PySem.W.handedIn u=true:=by
 cases v with
 |non=>cases(show u=Value.none from r);rfl
 |bl b=>cases(show u=Value.bool b from r);rfl
 |int i=>obtain⟨t,e⟩:=(show ∃ t,u=Value.int i t from r);cases e;rfl
 |str x=>obtain⟨t,e⟩:=(show ∃ t,u=Value.str x t from r);cases e;rfl
 |byt b=>obtain⟨t,e⟩:=(show ∃ t,u=Value.bytes b t from r);cases e;rfl
 |flt b=>obtain⟨t,e⟩:=(show ∃ t,u=Value.float b t from r);cases e;rfl
 |ref a=>cases(show u=Value.ref a from r);rfl
 |ty n=>cases(show u=Value.type n from r);rfl
section
variable {P:Program}{w:World}{H H':Hp}{h h':Heap}{a C dx:Addr}{fs fs':List (Str×V)}
theorem uQ (hok:HOk P w H h)(e:H a=some (.ins C dx fs)):∃ mA,BW h a dx C mA/\(∀ f,xq (fs.lookup f) (mA f))/\PySem.Within mA (fs.map (·.1))/\fs.length<=1000/\H dx=some (.own a):=by
 obtain⟨d,z,ne,ob,mA,n,r,q⟩:=(show jv P w H h a (.ins C dx fs) from hok a _ e)
 exact⟨mA,⟨ob,n,ne⟩,r,q,z,d⟩
end
structure Cls (K:PySem.W.Frag)(C:Addr):Prop where
 pg:PySem.W.plainGet K C Str.empty=true
 hd:PySem.W.hasDictIn K C=true
 po:PySem.W.plainOver K C=true
 sa:PySem.W.findIn K (.ref C) "__setattr__" = some (some (.builtin "object.__setattr__"))
theorem Cls.get {C:Addr}(c:Cls K C)(f:Str):PySem.W.plainGet K C f=true:=c.pg
noncomputable def qw (K:PySem.W.Frag)(C:Addr)(f:Str):Prop:=PySem.W.findIn K (.ref C) f=some none
theorem qw.J6 {C:Addr}{f:Str}(n:qw K C f):PySem.W.takerIn K C f=some none:=by
 unfold PySem.W.takerIn
 rw[show PySem.W.findIn K (.ref C) f=some none from n]
 rfl
structure Meth (K:PySem.W.Frag)(C:Addr)(m:Str)(f:Addr):Prop where
 at_:PySem.W.findIn K (.ref C) m=some (some (.ref f))
 fn:PySem.W.isFn K (.ref f)=true
 kp:PySem.W.keepIn K (.ref f)=true
section
variable {X:Cx}{pins:List (Addr×Obj)}{σ:St}{H:Hp}{s:Shared}{a C dx:Addr}{fs:List (Str×V)}{f:Str}{v:V}{A:Around}{E:Value->Shared->Prop}
theorem BP {b:Bool}(I:Inv X pins σ H s)(e:H a=some (.ins C dx fs))(c:Cls X.K C)(n:qw X.K C f)(l:fs.lookup f=some v)
  (h:∀ u s',Inv X pins σ H s'->RelV v u->Q u s'):wpAny (model X.prog X.w) A (getAttr (.ref a) f b) Q E s:=by
 obtain⟨mA,O,r,_,_,_⟩:=uQ I.hok e
 obtain⟨u,hu,ru⟩:=xq.some_of (v:=v) (o:=mA f) (by rw[<-l];exact r f)
 exact get_map I.kIn O (c.get f) c.hd n hu (Ei ru) (h u _ (I.tok _) ru)
theorem wa {m:Str}{g:Addr}{pl:Sem Bool}{Q:Value×List Value->Shared->Prop}(I:Inv X pins σ H s)(e:H a=some (.ins C dx fs))(c:Cls X.K C)(k:Meth X.K C m g)(l:fs.lookup m=none)
  (h:Q (.ref g,[.ref a]) s):wpAny (model X.prog X.w) A (getMethod (.ref a) m pl) Q E s:=by
 obtain⟨mA,O,r,_,_,_⟩:=uQ I.hok e
 have hn:mA m=none:=xq.none_of (by rw[<-l];exact r m)
 exact Gm I.kIn O (c.get m) k.at_ k.fn hn h
theorem Bp {y:V}{Q:Unit->Shared->Prop}(I:Inv X pins σ H s)(e:H a=some (.ins C dx fs))(c:Cls X.K C)(n:qw X.K C f)(hl:fs.length<1000)(ry:RelV y u)
  (h:∀ s',Inv X pins σ (upd H a (.ins C dx (lO f y fs))) s'->Q () s'):wpAny (model X.prog X.w) A (setAttr (.ref a) f u) Q E s:=by
 obtain⟨mA,O,r,wi,_,ho⟩:=uQ I.hok e
 have hz:(fs.map (·.1)).length<=sizeLine:=by rw[aa,aE];omega
 refine GV I.kIn O c.sa c.po n.J6 c.hd wi hz λh' O' sb=>h _ ?_
 have hd:∃ o,h'.get? dx=some o:=let ⟨o,_,_,e',_⟩:=O'.ns;⟨o,e'⟩
 refine I.write (x:=a) (e:=dx) (by rw[e];exact True.intro) (.inr ho) (λb q hb z=>(sb.2 b hb).trans z) hd ?_
 refine⟨by rw[fw O.ne];exact ho,?_,O.ne,O'.obj,_,O'.ns,λg=>?_,λg hg=>?_⟩
 ·have:=t7 f y fs;omega
 ·show xq ((lO f y fs).lookup g) (if g=f then some u else mA g)
  rw[tZ]
  by_cases q:g=f
  ·rw[av q,av q];exact ry
  ·rw[ak q,ak q];exact r g
 ·by_cases q:g=f
  ·rw[q];exact(sZ f y fs).1
  ·refine(sZ f y fs).2 g (wi g λz=>hg ?_)
   show(if g=f then some u else mA g)=none
   rw[ak q];exact z
theorem Inv.made (I:Inv X pins σ H s):Inv X pins σ (upd (upd H s.heap.objs.size (.own (s.heap.objs.size+1))) (s.heap.objs.size+1) (.ins C s.heap.objs.size []))
  {s with heap:=(s.heap.push PySem.W.emptyDict).push (PySem.W.instObj C s.heap.objs.size)} :=by
 have e1:(s.heap.push PySem.W.emptyDict).get? s.heap.objs.size=some PySem.W.emptyDict:=aM s.heap rfl
 have e2:((s.heap.push PySem.W.emptyDict).push (PySem.W.instObj C s.heap.objs.size)).get? (s.heap.objs.size+1)=some (PySem.W.instObj C s.heap.objs.size):=by
  have:=aM (s.heap.push PySem.W.emptyDict) (o:=PySem.W.instObj C s.heap.objs.size) rfl
  rwa [cY]at this
 have e3:(s.heap.push PySem.W.emptyDict).Ns s.heap.objs.size (λ_=>none):=⟨PySem.W.emptyDict,#[],_,e1,rfl,(λe he=>absurd he (by simp)),λ_=>rfl⟩
 have I1:=I.laid (a:=s.heap.objs.size) (o:=.own (s.heap.objs.size+1)) (h':=s.heap.push PySem.W.emptyDict) (t':=s.toks) (λb u q=>aj _ q) (aw _) ⟨_,e1⟩
 refine I1.laid (a:=s.heap.objs.size+1) (o:=.ins C s.heap.objs.size []) (t':=s.toks) (λb u q=>aj _ q) (Nat.le_of_eq (cY _ _)) ?_
 have ne:s.heap.objs.size≠s.heap.objs.size+1:=aD (eI _)
 refine⟨by rw[fw ne,eO],aV _,ne,e2,λ_=>none,(Heap.Ns1.of_empty e3).at λo q=>aj _ q,λ_=>True.intro,λy hy=>absurd rfl hy⟩
theorem HE {prog:Program}{env:Env}{e:Expr}{f:Str}(hb:attributeBase e f env (eval e env)=eval e env)
  (h:wpAny (model prog w) A (eval e env) (λo s₁=>wpAny (model prog w) A (getAttr o f true) Q E s₁) E s):wpAny (model prog w) A (eval (.Attribute e f pos) env) Q E s:=
 Attribute_any_ h (by rw[arm_eval_Attribute,hb])
end
noncomputable def LD (K:PySem.W.Frag)(ta:TE)(f:Str):TE:=λσ H Q=>ta σ H λx H1=>∃ a C dx fs v,x = .ref a/\H1 a=some (.ins C dx fs)/\Cls K C/\qw K C f/\fs.lookup f=some v/\Q v H1
noncomputable def MT (K:PySem.W.Frag)(ta tv:TE)(f:Str):TS:=λD σ H=>tv σ H λy H1=>ta σ H1 λx H2=>∃ a C dx fs,x = .ref a/\H2 a=some (.ins C dx fs)/\Cls K C/\qw K C f/\fs.length<1000/\
 D.nx σ (upd H2 a (.ins C dx (lO f y fs)))
section
variable {X:Cx}{o e value:Expr}{f:Str}{pos pos' J4:Pos}{ta tv:TE}
theorem yT (he:PE X e ta)(hb:attributeBase e f X.env (eval e X.env)=eval e X.env):PE X (.Attribute e f pos) (LD X.K ta f):=by
 intro pins s σ H Q I h
 refine HE hb (thn (he pins s σ H _ I h) λu s1 ⟨x,H1,I1,rx,a,C,dx,fs,v,ex,ea,c,n,l,q⟩=>?_)
 subst ex
 obtain rfl:u=Value.ref a:=rx
 exact BP I1 ea c n l λu' s2 I2 ru=>⟨v,H1,I2,ru,q⟩
theorem sO (ha:PE X o ta)(hv:PE X value tv)(hs:swapsWith value (some (.Attribute o f pos')) pos.line X.env=pure false):PS X (.Assign [.Attribute o f pos'] value pos) (MT X.K ta tv f):=by
 intro pins s σ H D I h
 refine plainObj_wpAny_Assign_Attribute (thn (hv pins s σ H _ I h) λu s1 ⟨y,H1,I1,ry,q⟩=>thn (ha pins s1 σ H1 _ I1 q) λov s2 ⟨x,H2,I2,rx,a,C,dx,fs,ex,ea,c,n,l,q2⟩=>?_) hs
 subst ex
 obtain rfl:ov=Value.ref a:=rx
 exact Bp I2 ea c n l ry λs3 I3=>⟨σ,_,I3,q2⟩
end
section
variable {X:Cx}{pins:List (Addr×Obj)}{σ:St}{H:Hp}{s:Shared}{A:Around}{E:Value->Shared->Prop}{Q:Value->Shared->Prop}{c:Value}{b:Bool}
inductive tL (K:PySem.W.Frag) (H:Hp):V->Value->Prop where
 |non:tL K H .non (.type "NoneType")
 |bl (x:Bool):tL K H (.bl x) (.type "bool")
 |int (i:Int):tL K H (.int i) (.type "int")
 |str (x:Str):tL K H (.str x) (.type "str")
 |flt (x:UInt64):tL K H (.flt x) (.type "float")
 |lst {a:Addr}{xs:List V} (e:H a=some (.lst xs)):tL K H (.ref a) (.type "list")
 |frz {a:Addr}{o:Obj}{xs:List V} (e:H a=some (.frz o (.lst xs))):tL K H (.ref a) (.type "list")
 |tup {a:Addr}{xs:List V} (e:H a=some (.tup xs)):tL K H (.ref a) (.type "tuple")
 |dK {a:Addr}{kvs:List (Key×V)} (e:H a=some (.dK kvs)):tL K H (.ref a) (.type "dict")
 |dT {a:Addr}{kvs:List (List Key×V)} (e:H a=some (.dT kvs)):tL K H (.ref a) (.type "dict")
 |ins {a C dx:Addr}{fs:List (Str×V)} (e:H a=some (.ins C dx fs)) (cl:Cls K C) (ha:PySem.W.findIn K (.ref C) "__class__" = some (some (.builtin "object.__class__")))
   (hn:PySem.W.specialIn K (.builtin "object.__class__") "__get__" = some (some (.builtin "getset_descriptor.__get__"))) (htk:PySem.W.takesIn K (.builtin "object.__class__")=some true)
   (hm:PySem.W.mroIn K C (.type "object")=some true):tL K H (.ref a) (.ref C)
theorem Ed {x:V}{t:Value}(I:Inv X pins σ H s)(rx:RelV x u)(ty:tL X.K H x t)(e:PySem.W.kitOne X.K t c=some b)(h:∀ tk,Q (.bool b) {s with toks:=tk}):
  wpAny (model X.prog X.w) A (call (.builtin "isinstance") [u,c]) Q E s:=by
 cases ty with
 |non=>cases(show u=Value.none from rx);exact bH PySem.W.kitx_none I.kIn True.intro e (λz=>nomatch z) h
 |bl y=>cases(show u=Value.bool y from rx);exact bH PySem.W.kitx_bool I.kIn True.intro e (λz=>nomatch z) h
 |int i=>obtain⟨t,q⟩:=(show ∃ t,u=Value.int i t from rx);cases q;exact bH PySem.W.kitx_int I.kIn True.intro e (λz=>nomatch z) h
 |str y=>obtain⟨t,q⟩:=(show ∃ t,u=Value.str y t from rx);cases q;exact bH PySem.W.kitx_str I.kIn True.intro e (λz=>nomatch z) h
 |flt y=>obtain⟨t,q⟩:=(show ∃ t,u=Value.float y t from rx);cases q;exact bH PySem.W.kitx_float I.kIn True.intro e (λz=>nomatch z) h
 |@lst a xs ea=>
  cases(show u=Value.ref a from rx)
  obtain⟨_,_,n,_,h1⟩:=(show jv X.prog X.w H s.heap a (.lst xs) from I.hok a _ ea)
  exact bH PySem.W.kitx_list I.kIn ⟨_,h1,rfl⟩ e (λz=>nomatch z) h
 |@frz a ob xs ea=>
  cases(show u=Value.ref a from rx)
  obtain⟨_,_,_,n,_,h1⟩:=(show jv X.prog X.w H s.heap a (.frz ob (.lst xs)) from I.hok a _ ea)
  exact bH PySem.W.kitx_list I.kIn ⟨_,h1,rfl⟩ e (λz=>nomatch z) h
 |@tup a xs ea=>
  cases(show u=Value.ref a from rx)
  obtain⟨_,_,_,p⟩:=(show jv X.prog X.w H s.heap a (.tup xs) from I.hok a _ ea)
  obtain⟨o,h1,h2,_⟩:=p
  exact bH PySem.W.kitx_tuple I.kIn ⟨o,h1,h2⟩ e (λz=>nomatch z) h
 |@dK a kvs ea=>
  cases(show u=Value.ref a from rx)
  obtain⟨_,_,vs,_,p⟩:=(show jv X.prog X.w H s.heap a (.dK kvs) from I.hok a _ ea)
  obtain⟨o,es,ep,h1,h2,_⟩:=p
  exact bH PySem.W.kitx_dict I.kIn ⟨o,h1,h2.1⟩ e (λz=>nomatch z) h
 |@dT a kvs ea=>
  cases(show u=Value.ref a from rx)
  obtain⟨_,_,xs,_,o,es,ep,h1,h2,_⟩:=(show jv X.prog X.w H s.heap a (.dT kvs) from I.hok a _ ea)
  exact bH PySem.W.kitx_dict I.kIn ⟨o,h1,h2.1⟩ e (λz=>nomatch z) h
 |@ins a C dx fs ea cl ha hn htk hm=>
  cases(show u=Value.ref a from rx)
  obtain⟨mA,O,_⟩:=uQ I.hok ea
  obtain⟨od,J,_⟩:=O.look
  exact bH (PySem.W.kitx_own (cl.get _) cl.hd ha hn htk hm) I.kIn J e (λz=>nomatch z) h
end
structure kS (k:Nat)(A:Around):Prop where
 hd:A.handled=none
 dp:A.depth+3*k+5<recursionLimit
 un:A.units+16*k+200<cLine
variable {k:Nat}
theorem kS.mono {j:Nat}(r:kS k A)(h:j<=k):kS j A:=⟨r.hd,by have:=r.dp;omega,by have:=r.un;omega⟩
theorem kS.deeper (r:kS (k+1) A)(env:Env):kS k (A.deeper env):=
 ⟨r.hd,by have:=r.dp;show A.depth+1+3*k+5<_;omega,by have:=r.un;show A.units+3+16*k+200<_;omega⟩
theorem BD {C:Addr} :(A.under (.builtin "type.__call__" ⟨.ref C::us,kw⟩)).depth=A.depth+1:=by
 first |rfl |simp[Around.under,Code.weight,Code.isCreation,Code.isGuard,Code.isCaller,Code.frames,Code.isFrame,guardIds]
theorem BC {C:Addr} :(A.under (.builtin "type.__call__" ⟨.ref C::us,kw⟩)).units=A.units+1:=by
 first |rfl |simp[Around.under,Code.cUnits,Code.frames,Code.isFrame]
theorem kS.make (r:kS (k+1) A)(C:Addr)(us:List Value)(kw:List (Str×Value)):kS k (A.under (.builtin "type.__call__" ⟨.ref C::us,kw⟩)):=
 ⟨r.hd,by have:=r.dp;rw[BD];omega,by have:=r.un;rw[BC];omega⟩
theorem kS.depth (r:kS k A):A.depth<recursionLimit:=by have:=r.dp;omega
theorem kS.units (r:kS k A):A.units+64<cLine:=by have:=r.un;omega
noncomputable def IB:TA:=λ_ H Q=>Q [] H
noncomputable def Ki (ta:TE)(tr:TA):TA:=λσ H Q=>ta σ H λx H1=>tr σ H1 λxs H2=>Q (x::xs) H2
section
variable {X:Cx}{e:Expr}{es:List Expr}{te:TE}{t:TA}{pos:Pos}
theorem eM:PA X [] IB:=λ_ _ _ _ H Q I h=>Calls.spliced_nil ⟨[],H,I,.nil,h⟩
theorem eL (ha:PE X e te)(hr:PA X es t)(hs:starEach (e::es) X.env=(false,eval e X.env)::starEach es X.env:=by rfl):PA X (e::es) (Ki te t):=by
 intro pos pins s σ H Q I h
 rw[hs]
 show wpAny _ _ (spliced ((false,eval e X.env)::backTo pos (starEach es X.env))) _ _ s
 refine Calls.spliced_cons (thn (ha pins s σ H _ I h) λu s1 ⟨x,H1,I1,r1,q1⟩=>?_)
 exact thn (hr pos pins s1 σ H1 _ I1 q1) λus s2 ⟨xs,H2,I2,r2,q2⟩=>⟨x::xs,H2,I2,.cons r1 r2,q2⟩
noncomputable def Lu (t:TA):TE:=λσ H Q=>t σ H λxs H1=>xs.length<=sizeLine/\∀ p,H1 p=none->Q (.ref p) (upd H1 p (.tup xs))
noncomputable def Lz (t:TA):TE:=λσ H Q=>t σ H λxs H1=>xs.length<=sizeLine/\∀ p,H1 p=none->Q (.ref p) (upd H1 p (.lst xs))
theorem iq {x1}(h:PA X es t):PE X (.Tuple es x1 pos) (Lu t):=by
 intro pins s σ H Q I hq
 refine wpAny_Tuple_spliced (thn (h pos pins s σ H _ I hq) λus s1 ⟨xs,H1,I1,r,z,q⟩=>⟨by rw[<-r.length];exact z,?_⟩)
 have hf:H1 s1.heap.objs.size=none:=I1.hok.fresh (aw _)
 refine⟨.ref s1.heap.objs.size,upd H1 s1.heap.objs.size (.tup xs),I1.laid (t':=s1.toks) (λb u e=>aj _ e) (aw _) ?_,rfl,q _ hf⟩
 exact⟨z,us,r,⟨_,aM _ rfl,rfl,_,rfl⟩⟩
theorem fN (h:PA X es t):PE X (.List es pos) (Lz t):=by
 intro pins s σ H Q I hq
 refine wpAny_List_spliced (thn (h pos pins s σ H _ I hq) λus s1 ⟨xs,H1,I1,r,z,q⟩=>⟨by rw[<-r.length];exact z,?_⟩)
 have hf:H1 s1.heap.objs.size=none:=I1.hok.fresh (aw _)
 refine⟨.ref s1.heap.objs.size,upd H1 s1.heap.objs.size (.lst xs),I1.laid (t':=s1.toks) (λb u e=>aj _ e) (aw _) ?_,rfl,q _ hf⟩
 exact⟨z,us,0,r,aM _ rfl⟩
end
noncomputable abbrev Sp:=List V->Hp->VK->XK->Prop
noncomputable abbrev CXT:=List Env->Hp->Shared->XK->Value->Shared->Prop
structure B0 (P:Program)(w:World)(K:PySem.W.Frag)(mg:Str->Option Value)(base:Heap)(A:Around)(outer:List Env)(s:Shared)(H:Hp):Prop where
 frames:A.frames=some outer
 mod:Mod K mg base
 bs:∀ b o,base.get? b=some o->s.heap.get? b=some o/\H b=none
 bsz:base.objs.size<=s.heap.objs.size
 su:s.heap.FunFrames base outer
 frf:∀ b∈frs outer,H b=none
 hok:HOk P w H s.heap
 bare:AllBare s.gens
noncomputable def CE (outer:List Env)(P:Program)(w:World)(H:Hp)(s:Shared)(Q:VK)(u:Value)(s':Shared):Prop:=
 ∃ v H',s'.os=s.os/\AllBare s'.gens/\Un (frs outer) [] H H' s.heap s'.heap/\HOk P w H' s'.heap/\RelV v u/\Q v H'
noncomputable def CR (CX:CXT)(outer:List Env)(P:Program)(w:World)(H:Hp)(s:Shared)(Q:VK)(E:XK)(r:Result)(s':Shared):Prop:=
 match r with
 |.ok (.ret u)=>CE outer P w H s Q u s'
 |.ok _=>False
 |.error e=>CX outer H s E e s'
structure eX (P:Program)(w:World)(K:PySem.W.Frag)(mg:Str->Option Value)(base:Heap)(CX:CXT)(k:Nat)(f:Addr)(fd:FuncData)(ps:List Str)(sp:Sp):Prop where
 len:∀ vs H Q E,sp vs H Q E->vs.length=ps.length
 run:∀ (A:Around) (outer:List Env) (s:Shared) (H:Hp) (args:Args) (us:List Value) (vs:List V) (Q:VK) (E:XK),kS k A->B0 P w K mg base A outer s H->BindsTo s fd args (ps.zip us)->Vals vs us->sp vs H Q E->
  codeAny (model P w) A (.call (.ref f) args) (CR CX outer P w H s Q E) s
variable {mg:Str->Option Value}{base:Heap}
theorem eX.mono {CX:CXT}{j:Nat}{f:Addr}{fd:FuncData}{ps:List Str}{sp:Sp}(F:eX P w K mg base CX j f fd ps sp)(h:j<=k):
  eX P w K mg base CX k f fd ps sp:=⟨F.len,λA outer s H args us vs Q E hr=>F.run A outer s H args us vs Q E (hr.mono h)⟩
theorem B0.make {outer:List Env}(e:B0 P w K mg base A outer s H)(C:Addr)(us:List Value)(kw:List (Str×Value)):
  B0 P w K mg base (A.under (.builtin "type.__call__" ⟨.ref C::us,kw⟩)) outer s H:=⟨by first |exact e.frames |(simpa [Around.under,Code.envs,Code.isFrame,pushEnvs]using e.frames),e.mod,e.bs,e.bsz,e.su,e.frf,e.hok,e.bare⟩
section
variable {X:Cx}{pins:List (Addr×Obj)}{σ:St}{H:Hp}{s s':Shared}
theorem Inv.JJ (I:Inv X pins σ H s):B0 X.prog X.w X.K X.mg X.base X.A X.stack s H:=
 ⟨I.ok.frames,I.ok.mod,I.bs,aT I.ok.bsz I.sz,I.stack,I.yu,I.hok,I.bare⟩
theorem Inv.after {Q:VK}(I:Inv X pins σ H s)(h:CE X.stack X.prog X.w H s Q u s'):EP X pins σ Q u s':=by
 obtain⟨v,H',os,bare,un,hok,r,q⟩:=h
 obtain⟨hh,g,d,t,os'⟩:=s'
 obtain rfl:os'=s.os:=os
 exact⟨v,H',I.call (h':=hh) (g':=g) (d':=d) (t':=t) (ch:=[]) un hok bare (λb z=>absurd z (by simp)),r,q⟩
end
noncomputable def Kj (sp:Sp)(dvs:List V)(E:XK)(t:TA):TE:=λσ H Q=>t σ H λvs H1=>sp (vs++dvs) H1 Q E
noncomputable def Ke (C:Addr)(m:Str)(sp:Sp)(dvs:List V)(E:XK)(ta:TE)(t:TA):TE:=λσ H Q=>ta σ H λx H1=>∃ a dx fs,x = .ref a/\H1 a=some (.ins C dx fs)/\fs.lookup m=none/\
 t σ H1 λvs H2=>sp (x::(vs++dvs)) H2 Q E
noncomputable def Kf (C:Addr)(sp:Sp)(dvs:List V)(E:XK)(t:TA):TE:=λσ H Q=>t σ H λvs H1=>∀ x dx,H1 x=none->H1 dx=none->dx≠x->
 sp (.ref x::(vs++dvs)) (upd (upd H1 dx (.own x)) x (.ins C dx [])) (λv H2=>v = .non/\Q (.ref x) H2) E
noncomputable def Binds (K:PySem.W.Frag)(fd:FuncData)(ps:List Str)(ds:List Value):Prop:=
 ∀ (s:Shared) (us:List Value),K.In s.heap->(us++ds).length=ps.length->BindsTo s fd ⟨us,[]⟩ (ps.zip (us++ds))
theorem Binds.all {fd:FuncData}{ps:List Str}(h:∀ us:List Value,us.length=ps.length->bindArgs fd ⟨us,[]⟩=pure (ps.zip us)):Binds K fd ps []:=λs us _ hl=>by
 rw[bS]at hl ⊢
 exact .of_eq (h us hl)
noncomputable def Passes (CX:CXT)(X:Cx)(E:XK):Prop:=∀ (pins:List (Addr×Obj)) (σ:St) (H:Hp) (s:Shared) (e:Value) (s':Shared),Inv X pins σ H s->CX X.stack H s E e s'->X.xe e s'
section
variable {X:Cx}{CX:CXT}{k:Nat}{f C:Addr}{fd:FuncData}{ps:List Str}{sp:Sp}{dvs:List V}{ds:List Value}{E:XK}{x m:Str}{p pos apos:Pos}{e o:Expr}{es:List Expr}{ta:TE}{t:TA}
theorem Br {Q:VK}{vs:List V}(F:eX X.prog X.w X.K X.mg X.base CX k f fd ps sp)(hr:kS k X.A)(hb:Binds X.K fd ps ds)(hd:Vals dvs ds)(hx:Passes CX X E)
  (I:Inv X pins σ H s) (r:Vals vs us) (h:sp (vs++dvs) H Q E):wpAny (model X.prog X.w) X.A (call (.ref f) us) (EP X pins σ Q) X.xe s:=by
 have r2:Vals (vs++dvs) (us++ds):=r.append hd
 have hl:(us++ds).length=ps.length:=by rw[<-r2.length];exact F.len _ _ _ _ h
 refine wpAny_call (cZ (F.run X.A X.stack s H ⟨us,[]⟩ (us++ds) (vs++dvs) Q E hr I.JJ (hb s us I.kIn hl) r2 h) λr s' hq=>?_)
 cases r with
 |error e=>exact hx pins σ H s e s' I hq
 |ok fl=>
  cases fl with
  |ret u=>exact I.after hq
  |next=>exact False.elim hq
  |brk=>exact False.elim hq
  |cont=>exact False.elim hq
theorem eS (F:eX X.prog X.w X.K X.mg X.base CX k f fd ps sp)(hr:kS k X.A)(hg:Gl X x)(hm:X.mg x=some (.ref f))(hk:PySem.W.keepIn X.K (.ref f)=true)(hb:Binds X.K fd ps ds)(hd:Vals dvs ds)(hx:Passes CX X E)
  (ha:PA X (e::es) t) (hdb:(x==("__debug__" :Str))=false:=by decide) (he:starEach (e::es) X.env=(false,eval e X.env)::starEach es X.env:=by rfl) (hpl:(backTo pos (starEach es X.env)).any (·.1)=false:=by rfl):
  PE X (.Call (.Name x p) (e::es) [] pos) (Kj sp dvs E t):=by
 intro pins s σ H Q I h
 refine cO (qK I hg hm ?_ hdb)
 refine dW (h₀:=X.base) I.ok.mod.kin hk (thn (ha pos pins s σ H _ I h) λus s1 ⟨vs,H1,I1,r,q⟩=>⟨I1.kIn,?_⟩) he hpl
 exact Br F hr hb hd hx I1 r q
theorem Cm {pl:Sem Bool}(he:PE X o ta)(c:Cls X.K C)(hm:Meth X.K C m f)(F:eX X.prog X.w X.K X.mg X.base CX k f fd ps sp)(hr:kS k X.A)(hb:Binds X.K fd ps ds)(hd:Vals dvs ds)(hx:Passes CX X E)(ha:PA X (e::es) t)
  (hst:starEach (e::es) X.env=(false,eval e X.env)::starEach es X.env:=by rfl) (hpl:(backTo pos (starEach es X.env)).any (·.1)=false:=by rfl)
  (ht:eval (.Call (.Attribute o m apos) (e::es) [] pos) X.env=(do
   let ov <-eval o X.env
   standAt apos.atName
   let (f,first) <-holding [ov] (getMethod ov m pl)
   callWith pos f first (backTo pos (starEach (e::es) X.env)) (backToKw pos (keywordEach [] X.env))):=by rfl):
  PE X (.Call (.Attribute o m apos) (e::es) [] pos) (Ke C m sp dvs E ta t):=by
 intro pins s σ H Q I h
 refine PySem.W.methodCall_KW (pl:=pl) (thn (he pins s σ H _ I h) λu s1 ⟨x,H1,I1,rx,a,dx,fs,ex,ea,l,q⟩=>?_) ht
 subst ex
 obtain rfl:u=Value.ref a:=rx
 refine wa I1 ea c hm l ?_
 refine dW (first:=[.ref a]) (h₀:=X.base) I.ok.mod.kin hm.kp (thn (ha pos pins s1 σ H1 _ I1 q) λus s2 ⟨vs,H2,I2,r,q2⟩=>⟨I2.kIn,?_⟩) hst hpl
 exact Br (us:=.ref a::us) (vs:=.ref a::vs) F hr hb hd hx I2 (.cons rfl r) q2
structure Mk (K:PySem.W.Frag)(C f:Addr):Prop where
 makes:PySem.W.makesIn K C=true
 init:PySem.W.findIn K (.ref C) "__init__" = some (some (.ref f))
 fn:PySem.W.isFn K (.ref f)=true
 kp:PySem.W.keepIn K (.ref C)=true
theorem Fc {Q:VK}{vs:List V}(M:Mk X.K C f)(F:eX X.prog X.w X.K X.mg X.base CX k f fd ps sp)(hr:kS (k+1) X.A)(hb:Binds X.K fd ps ds)(hd:Vals dvs ds)
  (hx:Passes CX X E) (I:Inv X pins σ H s) (r:Vals vs us)
  (h:∀ x dx,H x=none->H dx=none->dx≠x->sp (.ref x::(vs++dvs)) (upd (upd H dx (.own x)) x (.ins C dx [])) (λv H2=>v = .non/\Q (.ref x) H2) E):
  wpAny (model X.prog X.w) X.A (call (.ref C) us) (EP X pins σ Q) X.xe s:=by
 have hq:=h (s.heap.objs.size+1) s.heap.objs.size (I.hok.fresh (Nat.le_succ _)) (I.hok.fresh (aw _)) (aD (eI _))
 have I2:=Inv.made (C:=C) I
 have r2:Vals (V.ref (s.heap.objs.size+1)::(vs++dvs)) (Value.ref (s.heap.objs.size+1)::(us++ds)):=.cons rfl (r.append hd)
 have hl:(Value.ref (s.heap.objs.size+1)::us++ds).length=ps.length:=by
  have e:=r2.length
  rw[F.len _ _ _ _ hq]at e
  exact e.symm
 refine wpAny_call (FU (f:=f) I.kIn M.makes M.init (cG.mp M.fn) (cZ (F.run _ X.stack _ _ ⟨Value.ref (s.heap.objs.size+1)::us,[]⟩ (Value.ref (s.heap.objs.size+1)::(us++ds)) _ _ E (hr.make C us [])
  (I2.JJ.make C us []) (hb _ (Value.ref (s.heap.objs.size+1)::us) I2.kIn hl) r2 hq) λr s' hq'=>?_))
 cases r with
 |error e=>exact hx pins σ _ _ e s' I2 hq'
 |ok fl=>
  cases fl with
  |ret u=>
   obtain⟨v,H',I3,rv,ev,q3⟩:=I2.after hq'
   subst ev
   exact⟨rv,⟨V.ref (s.heap.objs.size+1),H',I3,rfl,q3⟩⟩
  |next=>exact False.elim hq'
  |brk=>exact False.elim hq'
  |cont=>exact False.elim hq'
theorem Fy (M:Mk X.K C f)(F:eX X.prog X.w X.K X.mg X.base CX k f fd ps sp)(hr:kS (k+1) X.A)(hg:Gl X x)(hm:X.mg x=some (.ref C))(hb:Binds X.K fd ps ds)(hd:Vals dvs ds)(hx:Passes CX X E)
  (hdb:(x==("__debug__" :Str))=false:=by decide):PE X (.Call (.Name x p) [] [] pos) (Kf C sp dvs E IB):=by
 intro pins s σ H Q I h
 refine cO (qK I hg hm ?_ hdb)
 exact PySem.W.callWith_K0 I.kIn M.kp (Fc (us:=[]) M F hr hb hd hx I .nil h)
end
structure fh (N P:List Str)(sc:Scope):Prop where
 kind:sc.kind = .function
 co:sc.isCoroutine=false
 gen:sc.isGenerator=false
 nd:N.Nodup
 pre:N.take P.length=P
 par:∀ x∈P,sc.names.lookup x=some .local\/sc.names.lookup x=some .cell
 Je:∀ y∈sc.names,y.2≠ .free
theorem yj {kindOf:Str->Option NameKind}{x:Str} :∀ {binds:List (Str×Value)}{m:Str->Option Value},(∀ v,(x,v)∉binds)->bindL kindOf binds m x=m x
 |[],_,_=>rfl
 |(n,v)::r,m,h=>by
  unfold bindL
  rw[yj λw hw=>h w (aq _ hw)]
  split
  ·have:x≠n:=by rintro rfl;exact h v au
   simp[this]
  ·rfl
theorem yl {kindOf:Str->Option NameKind}{x:Str} :∀ {binds:List (Str×Value)}{m:Str->Option Value},(∀ v,(x,v)∉binds)->bindC kindOf binds m x=m x
 |[],_,_=>rfl
 |(n,v)::r,m,h=>by
  unfold bindC
  rw[yl λw hw=>h w (aq _ hw)]
  split
  ·rfl
  ·have:x≠n:=by rintro rfl;exact h v au
   simp[this]
theorem yk {kindOf:Str->Option NameKind}{x:Str}{v:Value} :∀ {P:List Str}{vs:List Value}{i:Nat}{m:Str->Option Value},P.Nodup->P[i]? = some x->vs[i]? = some v->kindOf x=some .local->
  bindL kindOf (P.zip vs) m x=some v
 |[],_,_,_,_,h,_,_=>by simp at h
 |_::_,[],_,_,_,_,h,_=>by simp at h
 |p::P,w::vs,0,m,nd,h1,h2,hk=>by
  simp at h1 h2;subst h1;subst h2
  show bindL kindOf ((p,w)::P.zip vs) m p=_
  unfold bindL
  rw[yj λv hv=>(bI.mp nd).1 (List.of_mem_zip hv).1,av hk]
  simp
 |p::P,w::vs,i+1,m,nd,h1,h2,hk=>by
  show bindL kindOf ((p,w)::P.zip vs) m x=_
  unfold bindL
  exact yk (i:=i) (bI.mp nd).2 (by simpa using h1) (by simpa using h2) hk
theorem ym {kindOf:Str->Option NameKind}{x:Str}{v:Value} :∀ {P:List Str}{vs:List Value}{i:Nat}{m:Str->Option Value},P.Nodup->P[i]? = some x->vs[i]? = some v->kindOf x≠some .local->
  bindC kindOf (P.zip vs) m x=some v
 |[],_,_,_,_,h,_,_=>by simp at h
 |_::_,[],_,_,_,_,h,_=>by simp at h
 |p::P,w::vs,0,m,nd,h1,h2,hk=>by
  simp at h1 h2;subst h1;subst h2
  show bindC kindOf ((p,w)::P.zip vs) m p=_
  unfold bindC
  rw[yl λv hv=>(bI.mp nd).1 (List.of_mem_zip hv).1,ak hk]
  simp
 |p::P,w::vs,i+1,m,nd,h1,h2,hk=>by
  show bindC kindOf ((p,w)::P.zip vs) m x=_
  unfold bindC
  exact ym (i:=i) (bI.mp nd).2 (by simpa using h1) (by simpa using h2) hk
noncomputable def start (N:List Str)(vs:List V):St:=vs.map some++List.replicate (N.length-vs.length) none
noncomputable def xm (CX:CXT)(P:Program)(w:World)(K:PySem.W.Frag)(mg:Str->Option Value)(base:Heap)(N:List Str)(qual:Str)(scope:Scope)(f:Addr)(cd:Value)(A:Around)(outer:List Env)(s:Shared)(H:Hp)(E:XK):Cx where
 prog:=P
 w:=w
 K:=K
 mg:=mg
 base:=base
 A:=A.deeper (envOfC qual scope s.heap.objs.size f cd)
 N:=N
 s₀:=s
 H₀:=H
 env:=envOfC qual scope s.heap.objs.size f cd
 outer:=outer
 stack:=envOfC qual scope s.heap.objs.size f cd::outer
 ex:=[]
 calm:=true
 fn:=λ_=>true
 pn:=[]
 xe:=λe s'=>wpAny (model P w) (A.deeper (envOfC qual scope s.heap.objs.size f cd)) (leaving (envOfC qual scope s.heap.objs.size f cd) e) (λ_ s''=>CX outer H s E e s'') (λe' s''=>CX outer H s E e' s'') s'
theorem A5 {sc:Scope}{n:Nat}(h:sc.names.lookup x=some .cell):∃ c,(cellsFrom n sc.names []).lookup x=some c:=by
 have q:=PySem.W.cellsFrom_some sc.names n [] (.inl h)
 exact eC.mp q
theorem Ee {CX:CXT}{N ps:List Str}{qual:Str}{scope:Scope}{f:Addr}{cd:Value}{outer:List Env}{s1:Shared}{E:XK}{vs:List V}
  (S:fh N ps scope) (hd:A.handled=none) (e0:B0 P w K mg base A outer s H) (hl:vs.length=ps.length) (r:Vals vs us)
  (x:InCallC s s.heap.objs.size (bindL (envOfC qual scope s.heap.objs.size f cd).kindOf (ps.zip us) λ_=>none) (cellsFrom (s.heap.objs.size+1) scope.names []) (bindC (envOfC qual scope s.heap.objs.size f cd).kindOf (ps.zip us) λ_=>none) s1):
  Inv (xm CX P w K mg base N qual scope f cd A outer s H E) [] (start N vs) H s1:=by
 have hpl:ps.length<=N.length:=by have:=bF List.length S.pre;rw[aI]at this;omega
 obtain⟨h1,tk,rfl,hk⟩:=x.done
 have noA:∀ b:Addr,b∉(xm CX P w K mg base N qual scope f cd A outer s H E).ex:=λb z=>absurd (show b∈([]:List Addr) from z) (by simp)
 refine⟨⟨e0.mod,S.kind,rfl,rfl,aw _,λy z c h1 h2=>?_,λy hy=>?_,λy c _ h=>?_,λ_=>hd,Around.frames_deeper e0.frames,.inr ⟨rfl,rfl⟩,λb z=>absurd z (noA b),e0.bs,e0.bsz,λb _ _=>noA b,λb z=>absurd z (noA b),e0.su,e0.frf⟩,
  rfl,e0.bare,Un.kept hk,⟨_,x.toInCall.ns,λi y v h1 h2 h3=>?_⟩,λy c h=>⟨_,x.cell y c h⟩,e0.hok.fresh (aw _),λy c h=>?_,λp hp=>absurd (show p∈([]:List (Addr×Obj)) from hp) (by simp),e0.hok.kept hk,?_⟩
 ·exact name_of_addr x.apart (cg h1) (cg h2)
 ·have hy:scope.names.lookup y=some .cell\/scope.names.lookup y=some .free:=hy
  rcases hy with hy |hy
  ·exact A5 hy
  ·exact absurd rfl (S.Je _ (cg hy))
 ·exact cu (x.above y c (cg h))
 ·have hi:i<vs.length:=by
   unfold start at h2
   by_cases hi:i<vs.length
   ·exact hi
   ·rw[bq (by simpa using hi)]at h2
    rw[List.getElem?_replicate]at h2
    split at h2<;>cases h2
  have ha:vs[i]? = some v:=by
   unfold start at h2
   rw[bf (by simpa using hi),ah]at h2
   cases e:vs[i]? with
   |none=>rw[e]at h2;cases h2
   |some a=>rw[e]at h2;cases h2;rfl
  obtain⟨u,hu,rv⟩:=r.get ha
  have hp:ps[i]? = some y:=by
   rw[<-S.pre,cA (by omega)];exact h1
  have ndP:ps.Nodup:=by rw[<-S.pre];exact S.nd.sublist (List.take_sublist _ _)
  refine⟨u,rv,?_⟩
  rcases S.par y (aB hp)with k |k
  ·exact .inl ⟨k,yk ndP hp hu k⟩
  ·obtain⟨c,e⟩:=A5 (n:=s.heap.objs.size+1) k
   refine .inr ⟨.inl k,c,e,?_⟩
   have q:=x.cell y c e
   rw[ym ndP hp hu (by show scope.names.lookup y≠_;rw[k];decide)]at q
   exact q
 ·exact e0.hok.fresh (cu (x.above y c (cg h)))
 ·unfold start
  show _=N.length
  rw[aG,aa,List.length_replicate]
  omega
theorem Ij {CX:CXT}{f:Addr}{name qual:Str}{params:Arguments}{body:List Stmt}{scope:Scope}{dV kV doc pm cdv ct oc:Value}{an od:Option Addr}
  {osl:Array (Option Value)}{N ps:List Str}{sp:Sp} (lk:K.lookup f=some ⟨oc,od,.func (PySem.W.fnOf name qual params body scope dV kV doc pm an cdv ct),osl⟩) (hcd:PySem.W.codeIn K cdv qual=true) (S:fh N ps scope)
  (len:∀ vs H Q E,sp vs H Q E->vs.length=ps.length)
  (AO:∀ (A:Around) (outer:List Env) (s:Shared) (H:Hp) (vs:List V) (Q:VK) (E:XK),kS k (A.deeper (envOfC qual scope s.heap.objs.size f cdv))->sp vs H Q E->
   ∃ t,PSs (xm CX P w K mg base N qual scope f cdv A outer s H E) body t/\t {nx:=λ_ H'=>Q .non H',rt:=Q} (start N vs) H):
  eX P w K mg base CX (k+1) f (PySem.W.fnOf name qual params body scope dV kV doc pm an cdv ct) ps sp:=by
 refine⟨len,λA outer s H args us vs Q E hr e0 hb r hsp=>?_⟩
 have hl:=len _ _ _ _ hsp
 have KX:K.In s.heap:=e0.mod.kin.keeps λb o e=>(e0.bs b o e).1
 have lim:s.heap.NoLimit:=e0.mod.nolimit.keeps λb o e=>(e0.bs b o e).1
 have CJ:∀ y∈ps.zip us,scope.names.lookup y.1=some .local\/(scope.names.lookup y.1=some .cell/\((cellsFrom (s.heap.objs.size+1) scope.names []).lookup y.1).isSome=true):=λ⟨n,v⟩ hy=>by
  rcases S.par n (List.of_mem_zip hy).1 with q |q
  ·exact .inl q
  ·exact .inr ⟨q,PySem.W.cellsFrom_some _ _ _ (.inl q)⟩
 refine codeAny_call_function hr.depth (KX _ _ lk) rfl S.co S.gen rfl (PySem.W.codeRec_of KX hcd) (hb _ _ _ _ ?_)
 refine wpAny_newFunctionEnv_cells S.kind CJ λenv he s1 x=>?_
 subst he
 refine⟨lim.keeps x.toInCall.keep,codeAny_func ?_⟩
 obtain⟨t,ht,hq⟩:=AO A outer s H vs Q E (hr.deeper _) hsp
 have I:Inv (xm CX P w K mg base N qual scope f cdv A outer s H E) [] (start N vs) H s1:=Ee S hr.hd e0 hl r x
 refine aR (ht [] s1 (start N vs) H _ I hq) (λfl s' hs=>?_) λe s' hs=>hs
 have fin:∀ {σ':St}{H':Hp}{v:V}{u:Value},Inv (xm CX P w K mg base N qual scope f cdv A outer s H E) [] σ' H' s'->RelV v u->Q v H'->CE outer P w H s Q u s':=
  λ{σ' H' v u} J rv q=>⟨v,H',J.os,J.bare,J.base,J.hok,rv,q⟩
 cases fl with
 |ret u=>
  obtain⟨v,σ',H',J,rv,q⟩:=hs
  exact fin J rv q
 |next=>
  obtain⟨σ',H',J,q⟩:=hs
  exact fin (v:=V.non) (u:=Value.none) J rfl q
 |brk=>
  obtain⟨_,_,_,q⟩:=hs
  exact False.elim q
 |cont=>
  obtain⟨_,_,_,q⟩:=hs
  exact False.elim q
section
variable {X:Cx}{x:Str}{p pos:Pos}{e:Expr}{es:List Expr}{t:TA}{id T:String}{r:List V->Hp->VK->Prop}
noncomputable def tCB (r:List V->Hp->VK->Prop)(t:TA):TE:=λσ H Q=>t σ H λvs H1=>r vs H1 Q
theorem fA (hc:jY X (.builtin id) r)(hg:Gl X x)(hm:X.mg x=none)(hv:bootBuiltins x=some (.builtin id))(ha:PA X (e::es) t)(hn:x≠ "__name__" :=by decide)(hdb:(x==("__debug__" :Str))=false:=by decide)
  (he:starEach (e::es) X.env=(false,eval e X.env)::starEach es X.env:=by rfl) (hpl:(backTo pos (starEach es X.env)).any (·.1)=false:=by rfl):PE X (.Call (.Name x p) (e::es) [] pos) (tCB r t):=by
 intro pins s σ H Q I h
 refine cO (rp I hg hm hv ?_ hn hdb)
 exact PyProof.Rows.callWith_builtin1 (thn (ha pos pins s σ H _ I h) λus s1 ⟨vs,H1,I1,r1,q1⟩=>hc pins s1 σ H1 vs us Q I1 r1 q1) he hpl
theorem hZ (hc:jY X (.type T) r)(hg:Gl X x)(hm:X.mg x=none)(hv:bootBuiltins x=some (.type T))(ha:PA X (e::es) t)(hn:x≠ "__name__" :=by decide)(hdb:(x==("__debug__" :Str))=false:=by decide)
  (he:starEach (e::es) X.env=(false,eval e X.env)::starEach es X.env:=by rfl) (hpl:(backTo pos (starEach es X.env)).any (·.1)=false:=by rfl):PE X (.Call (.Name x p) (e::es) [] pos) (tCB r t):=by
 intro pins s σ H Q I h
 refine cO (rp I hg hm hv ?_ hn hdb)
 exact cL (thn (ha pos pins s σ H _ I h) λus s1 ⟨vs,H1,I1,r1,q1⟩=>hc pins s1 σ H1 vs us Q I1 r1 q1) he hpl
theorem Bu (hc:jY X (.type T) r)(hg:Gl X x)(hm:X.mg x=none)(hv:bootBuiltins x=some (.type T))(hn:x≠ "__name__" :=by decide)(hdb:(x==("__debug__" :Str))=false:=by decide):
  PE X (.Call (.Name x p) [] [] pos) (tCB r IB):=by
 intro pins s σ H Q I h
 refine cO (rp I hg hm hv ?_ hn hdb)
 exact PyProof.Rows.callWith_type0 (hc pins s σ H [] [] Q I .nil h)
end
end L2
namespace HT
open PySem PyProof.Rows
section
variable {prog:Program}{w:World}{A:Around}{E:Value->Shared->Prop}{s:Shared}
noncomputable def sIx (n d:Nat):Option Int->Nat
 |none=>d
 |some v=>if v<0 then(v+(n:Int)).toNat else min v.toNat n
theorem rS (n d:Nat):sIx n d none=d:=rfl
theorem yQ (n d k:Nat):sIx n d (some (k:Int))=min k n:=by
 show(if(k:Int)<0 then((k:Int)+(n:Int)).toNat else min (k:Int).toNat n)=min k n
 rw[ak (by omega),Int.toNat_natCast]
theorem HC (v:Int)(n d:Nat):(if v<0 then max (v+(n:Int)) 0 else min v (n:Int))=((sIx n d (some v):Nat):Int):=by
 show(if v<0 then max (v+(n:Int)) 0 else min v (n:Int))=(((if v<0 then(v+(n:Int)).toNat else min v.toNat n):Nat):Int)
 by_cases hv:v<0
 ·simp only[av hv];omega
 ·simp only[ak hv];omega
end
end HT
namespace L2
open PySem PySem.Spec PyProof.Rows
noncomputable abbrev TO:=St->Hp->(Option Int->Hp->Prop)->Prop
noncomputable def PO (X:Cx)(e:Option Expr)(t:TO):Prop:=
 ∀ (pins:List (Addr×Obj)) (s:Shared) (σ:St) (H:Hp) (Q:Option Int->Hp->Prop),Inv X pins σ H s->t σ H Q->
  wpAny (model X.prog X.w) X.A (evalPart e X.env) (λu s'=>∃ o H',Inv X pins σ H' s'/\IsPart u o/\Q o H') X.xe s
noncomputable def GR:TO:=λ_ H Q=>Q none H
noncomputable def Ka (t:TE):TO:=λσ H Q=>t σ H λx H1=>∃ i,x = .int i/\Q (some i) H1
theorem intsAre_of {ns:List Int} :∀ {us:List Value},Vals (ns.map V.int) us->IntsAre us ns:=by
 induction ns with
 |nil=>intro us r;rw[dQ]at r;cases r;exact .nil
 |cons n ns ih=>
  intro us r
  rw[aN]at r
  cases r with
  |cons r1 r2=>
   obtain⟨t,e⟩:=r1
   subst e
   exact .cons n t (ih r2)
section
variable {X:Cx}{e:Expr}{te:TE}{lo hi:Option Expr}{tl th:TO}{pos p2:Pos}
theorem gY:PO X none GR:=by
 intro pins s σ H Q I h
 rw[evalPart_none]
 exact ao ⟨none,H,I,.none,h⟩
theorem gX (h:PE X e te):PO X (some e) (Ka te):=by
 intro pins s σ H Q I hw
 rw[evalPart_some]
 refine thn (h pins s σ H _ I hw) λu s1 ⟨x,H1,I1,r1,q1⟩=>?_
 obtain⟨i,rfl,q⟩:=q1
 obtain⟨t,rfl⟩:=r1
 exact⟨some i,H1,I1,.int i t,q⟩
noncomputable def SlR (X:Cx)(r:V->Option Int->Option Int->Hp->VK->Prop):Prop:=
 ∀ (pins:List (Addr×Obj)) (s:Shared) (σ:St) (H:Hp) (x:V) (v vl vu:Value) (lo hi:Option Int) (sl:Addr) (Q:VK),Inv X pins σ H s->RelV x v->s.heap.IsSliceOf sl vl vu .none->IsPart vl lo->IsPart vu hi->r x lo hi H Q->
  ∃ T id,typeLookup (.type T) "__getitem__" = pure (some (.builtin id))/\s.TypeIs v T/\wpAny (model X.prog X.w) X.A (getItem v (.ref sl)) (EP X pins σ Q) X.xe s
noncomputable def tSl (r:V->Option Int->Option Int->Hp->VK->Prop)(te:TE)(tl th:TO):TE:=λσ H Q=>te σ H λx H1=>tl σ H1 λl H2=>th σ H2 λu H3=>r x l u H3 Q
theorem gF {r:V->Option Int->Option Int->Hp->VK->Prop}(hr:SlR X r)(he:PE X e te)(hl:PO X lo tl)(hu:PO X hi th):PE X (.Subscript e (.Slice lo hi none p2) pos) (tSl r te tl th):=by
 intro pins s σ H Q I h
 refine Subscript_ (thn (he pins s σ H _ I h) λv s1 ⟨x,H1,I1,r1,q1⟩=>?_)
 refine wpAny_Slice (thn (hl pins s1 σ H1 _ I1 q1) λvl s2 ⟨l,H2,I2,pl,q2⟩=>thn (hu pins s2 σ H2 _ I2 q2) λvu s3 ⟨u,H3,I3,pu,q3⟩=>?_)
 rw[evalPart_none]
 refine ao ?_
 have I4:Inv X pins σ H3 {s3 with heap:=s3.heap.push {cls:=.type "slice",data:=.fields #[vl,vu,.none]}} :=I3.kept (t':=s3.toks) λb ob q=>aj _ q
 obtain⟨T,id,hT,ht,hg⟩:=hr pins {s3 with heap:=s3.heap.push {cls:=.type "slice",data:=.fields #[vl,vu,.none]}} σ H3 x v vl vu l u s3.heap.objs.size Q I4 r1 (Heap.IsSliceOf.new ..) pl pu q3
 show wpAny (model X.prog X.w) X.A (subscriptTail e (.Slice lo hi none p2) v (.ref s3.heap.objs.size)) (EP X pins σ Q) X.xe {s3 with heap:=s3.heap.push {cls:=.type "slice",data:=.fields #[vl,vu,.none]}}
 exact tail_any (ops:=[.ref s3.heap.objs.size,v]) ht hT hg (by with_unfolding_all rfl)
noncomputable def nO (xs:List V)(lo hi:Option Int):List V:=(xs.drop (HT.sIx xs.length 0 lo)).take (HT.sIx xs.length xs.length hi-HT.sIx xs.length 0 lo)
theorem A0 (xs:List V)(lo hi:Option Int):(nO xs lo hi).length<=xs.length:=by
 unfold nO
 rw[aI,bp]
 omega
end
noncomputable def ixN (n:Nat)(i:Int):Option Nat:=if 0<=i then(if i<n then some i.toNat else none)else if -(n:Int)<=i then some (i+n).toNat else none
noncomputable def atI {α:Type}(xs:List α)(i:Int):Option α:=(ixN xs.length i).bind λj=>xs[j]?
theorem Ho {n:Nat}{i:Int}{j:Nat}(h:ixN n i=some j):seqIndex? i n=some j/\j<n/\ -(n:Int)<=i/\i<n:=by
 unfold ixN at h
 by_cases h0:0<=i
 ·rw[av h0]at h
  by_cases h1:i<n
  ·rw[av h1]at h
   have e:i.toNat=j:=aZ h
   exact⟨by rw[seqIndex_of h0 h1,e],by omega,by omega,h1⟩
  ·rw[ak h1]at h;cases h
 ·rw[ak h0]at h
  by_cases h1: -(n:Int)<=i
  ·rw[av h1]at h
   have e:(i+n).toNat=j:=aZ h
   exact⟨by rw[seqIndex_neg (by omega) h1,e],by omega,h1,by omega⟩
  ·rw[ak h1]at h;cases h
theorem zA {α:Type}{xs:List α}{i:Int}{v:α}(h:atI xs i=some v):∃ j,seqIndex? i xs.length=some j/\xs[j]? = some v/\j<xs.length/\ -(xs.length:Int)<=i/\i<xs.length:=by
 unfold atI at h
 cases e:ixN xs.length i with
 |none=>rw[e]at h;cases h
 |some j=>
  rw[e]at h
  obtain⟨h1,h2,h3,h4⟩:=Ho e
  exact⟨j,h1,h,h2,h3,h4⟩
theorem ik {α:Type}{xs:List α}{j:Nat}{v:α}(h:xs[j]? = some v):atI xs (j:Int)=some v:=by
 have hj:j<xs.length:=(af.mp h).1
 have e:ixN xs.length (j:Int)=some j:=by
  unfold ixN
  rw[av (by omega),av (by omega)];simp
 unfold atI;rw[e];exact h
theorem Ba {α:Type}(xs:List α)(v:α):atI (xs ++ [v]) (-1)=some v:=by
 have hl:(xs ++ [v]).length=xs.length+1:=by simp
 have e:ixN (xs ++ [v]).length (-1)=some xs.length:=by
  unfold ixN
  rw[hl,ak (by decide),av (by omega)]
  congr 1
  omega
 unfold atI
 rw[e]
 show(xs ++ [v])[xs.length]? = some v
 simp
noncomputable def HF (b:Expr):Prop:=∀ o i,subscripted b false o i=operate [o,i] (getItem o i)
noncomputable def IxR (X:Cx)(r:R2):Prop:=
 ∀ (value slice:Expr) (pins:List (Addr×Obj)) (s:Shared) (σ:St) (H:Hp) (x y:V) (v u:Value) (Q:VK),Inv X pins σ H s->RelV x v->RelV y u->r x y H Q->
  subscripted slice false v u=operate [v,u] (getItem v u)->wpAny (model X.prog X.w) X.A (subscriptTail value slice v u) (EP X pins σ Q) X.xe s
noncomputable def MtR (X:Cx)(id:String)(r:V->List V->Hp->VK->Prop):Prop:=
 ∀ (pins:List (Addr×Obj)) (s:Shared) (σ:St) (H:Hp) (x:V) (xs:List V) (v:Value) (us:List Value) (Q:VK),Inv X pins σ H s->RelV x v->Vals xs us->r x xs H Q->
  wpAny (model X.prog X.w) X.A (call (.builtin id) (v::us)) (EP X pins σ Q) X.xe s
section
variable {X:Cx}{a b:Expr}{ta tb:TE}{pos:Pos}
theorem fU {r:R2}(hr:IxR X r)(ha:PE X a ta)(hb:PE X b tb)(hs:HF b):PE X (.Subscript a b pos) (tOp r ta tb):=by
 intro pins s σ H Q I h
 exact Subscript_ (JN ha hb I h λv u s2 x y H2 I2 rx ry q=>hr a b pins s2 σ H2 x y v u Q I2 rx ry q (hs _ _))
noncomputable def MZ (K:PySem.W.Frag):R2:=λx y H Q=>∃ p xs i v,x = .ref p/\y = .int i/\SqL K H p xs/\atI xs i=some v/\Q v H
noncomputable def MX (K:PySem.W.Frag):R2:=λx y H Q=>∃ p xs i v,x = .ref p/\y = .int i/\SqT K H p xs/\atI xs i=some v/\Q v H
noncomputable def MY:R2:=λx y H Q=>∃ z i c,x = .str z/\y = .int i/\z.length<=sizeLine/\atI z.cps.toList i=some c/\Q (.str ⟨#[c]⟩) H
theorem fM:IxR X (MZ X.K):=by
 intro value slice pins s σ H x y v u Q I rx ry h hs
 obtain⟨p,xs,i,z,rfl,rfl,hq,he,q⟩:=h
 cases rx
 obtain⟨t,rfl⟩:=ry
 obtain⟨its,r,pl,hz⟩:=I.list hq
 obtain⟨j,h1,h2,h3,h4,h5⟩:=zA he
 obtain⟨w,ew,rw'⟩:=r.get h2
 have hl:=r.length
 have hn:=sY
 have fin:EP X pins σ Q w s:=⟨z,H,I,rw',q⟩
 by_cases h0:0<=i
 ·have hj:i.toNat=j:=by
   rw[seqIndex_of h0 h5]at h1
   exact aZ h1
  exact item_listR pl.isList h0 (by omega) (by rw[hj];simpa using ew) fin hs
 ·have hj:(i+(its.toArray.size:Int)).toNat=j:=by
   rw[seqIndex_neg (by omega) h4]at h1
   rw[aJ,<-hl]
   exact aZ h1
  exact subscriptTail_builtinR (x:=w) pl.isList.typeIs slot_list_getitem.lookup
   (wpAny_getItem_list_neg (Q:=λr s'=>r=w/\EP X pins σ Q r s') pl.isList (by omega) (by rw[aJ]<;>omega) (by omega) (by rw[hj];simpa using ew) ⟨rfl,fin⟩) hs
theorem lR:IxR X (MX X.K):=by
 intro value slice pins s σ H x y v u Q I rx ry h hs
 obtain⟨p,xs,i,z,rfl,rfl,hq,he,q⟩:=h
 cases rx
 obtain⟨t,rfl⟩:=ry
 obtain⟨its,r,pl,hz⟩:=I.tuple hq
 obtain⟨j,h1,h2,h3,h4,h5⟩:=zA he
 obtain⟨w,ew,rw'⟩:=r.get h2
 have hl:=r.length
 have hn:=sY
 have fin:EP X pins σ Q w s:=⟨z,H,I,rw',q⟩
 exact subscriptTail_builtinR (x:=w) pl.typeIs slot_tuple_getitem.lookup
  (getItem_tuple (j:=j) (Q:=λr s'=>r=w/\EP X pins σ Q r s') pl (by omega) (by omega) (by rw[aJ,<-hl];exact h1) (by simpa using ew) ⟨rfl,fin⟩) hs
theorem rz:IxR X MY:=by
 intro value slice pins s σ H x y v u Q I rx ry h hs
 obtain⟨z,i,c,rfl,rfl,hz,he,q⟩:=h
 obtain⟨t,rfl⟩:=rx
 obtain⟨t',rfl⟩:=ry
 obtain⟨j,h1,h2,h3,h4,h5⟩:=zA he
 have hl:z.cps.toList.length=z.length:=by simp[Str.length]
 rw[hl]at h1 h4 h5
 have hn:=sY
 exact tail_any (dE s z t) slot_str_getitem.lookup (getItem_str (c:=c) (by
  have e1:decide (i < -(2 ^ 63:Int))=false:=bu (by omega)
  have e2:decide (i≥2 ^ 63)=false:=bu (by omega)
  rw[e1,e2,Bool.or_false]) (by rw[h1];simpa using h2) ⟨.str ⟨#[c]⟩,H,I.tok _,⟨_,rfl⟩,q⟩) hs
theorem yE (lo hi:Option Int)(n:Nat):(sliceBounds lo hi none n).1=((HT.sIx n 0 lo:Nat):Int)/\(sliceBounds lo hi none n).2.1=((HT.sIx n n hi:Nat):Int)/\(sliceBounds lo hi none n).2.2=1:=by
 refine⟨?_,?_,rfl⟩
 ·cases lo with
  |none=>simp[sliceBounds,HT.sIx]
  |some i=>
   simp only[sliceBounds,HT.sIx,Option.getD_none,show(1:Int)>0 by decide,df]
   by_cases h:i<0
   ·simp only[h,df]<;>omega
   ·simp only[h,cb]<;>omega
 ·cases hi with
  |none=>simp[sliceBounds,HT.sIx]
  |some i=>
   simp only[sliceBounds,HT.sIx,Option.getD_none,show(1:Int)>0 by decide,df]
   by_cases h:i<0
   ·simp only[h,df]<;>omega
   ·simp only[h,cb]<;>omega
theorem wD (its:List Value)(lo hi:Option Int):slicePick its.toArray lo hi none=((its.drop (HT.sIx its.length 0 lo)).take (HT.sIx its.length its.length hi-HT.sIx its.length 0 lo)).toArray:=by
 obtain⟨h1,h2,h3⟩:=yE lo hi its.toArray.size
 unfold slicePick
 rw[h1,h2,h3]
 simp only[sliceRange_one,pick_run,aJ]<;>rfl
noncomputable def MV (K:PySem.W.Frag):V->Option Int->Option Int->Hp->VK->Prop:=λx lo hi H Q=>∃ a xs,x = .ref a/\SqL K H a xs/\∀ p,H p=none->Q (.ref p) (upd H p (.lst (nO xs lo hi)))
theorem iU:SlR X (MV X.K):=by
 intro pins s σ H x v vl vu lo hi sl Q I rx hs pl pu h
 obtain⟨a,xs,rfl,hx,q⟩:=h
 cases rx
 obtain⟨its,r,ht,hz⟩:=I.list hx
 have hlen:=r.length
 refine⟨"list",_,slot_list_getitem.lookup,ht.isList.typeIs,?_⟩
 refine wpAny_getItem_list_slice ht.isList hs pl pu .none (by simp) ?_ (by rw[aJ]<;>omega)
 rw[wD,<-hlen]
 refine⟨.ref s.heap.objs.size,_,I.laid (t':=s.toks) (o:=.lst (nO xs lo hi)) (λb ob q=>aj _ q) (aw _) ?_,rfl,q _ (I.hok.fresh (aw _))⟩
 exact⟨aT (A0 xs lo hi) hz,_,0,(r.drop (HT.sIx xs.length 0 lo)).take (HT.sIx xs.length xs.length hi-HT.sIx xs.length 0 lo),aM _ rfl⟩
noncomputable def qf:V->Bool
 |.non=>true
 |.bl _=>true
 |.int _=>true
 |.str _=>true
 |_=>false
noncomputable def eqV:V->V->Bool
 |.non,.non=>true
 |.bl a,.bl b=>a==b
 |.bl a,.int b=>(if a then 1 else 0)==b
 |.int a,.bl b=>a==(if b then 1 else 0)
 |.int a,.int b=>a==b
 |.str a,.str b=>a==b
 |_,_=>false
theorem JI {A:Around}{s:Shared}{y x:V}{u v:Value}(ry:RelV y u)(rx:RelV x v)(fy:qf y=true)(fx:qf x=true):SeqAt.EqAt A s u v (eqV y x):=by
 cases y with
 |non=>
  cases ry
  cases x with
  |non=>cases rx;exact SeqAt.EqAt.same _
  |bl b=>cases rx;exact SeqAt.EqAt.none_bool b
  |int b=>obtain⟨t,rfl⟩:=rx;exact SeqAt.EqAt.none_int b t
  |str b=>obtain⟨t,rfl⟩:=rx;exact SeqAt.EqAt.none_str b t
  |_=>exact absurd (show false=true from fx) ax
 |bl a=>
  cases ry
  cases x with
  |non=>cases rx;exact SeqAt.EqAt.bool_none a
  |bl b=>cases rx;exact SeqAt.EqAt.bool_bool a b
  |int b=>obtain⟨t,rfl⟩:=rx;exact SeqAt.EqAt.bool_int a b t
  |str b=>obtain⟨t,rfl⟩:=rx;exact SeqAt.EqAt.bool_str a b t
  |_=>exact absurd (show false=true from fx) ax
 |int a=>
  obtain⟨t',rfl⟩:=ry
  cases x with
  |non=>cases rx;exact SeqAt.EqAt.int_none a t'
  |bl b=>cases rx;exact SeqAt.EqAt.int_bool a t' b
  |int b=>obtain⟨t,rfl⟩:=rx;exact SeqAt.EqAt.int_int a t' b t
  |str b=>obtain⟨t,rfl⟩:=rx;exact SeqAt.EqAt.int_str a t' b t
  |_=>exact absurd (show false=true from fx) ax
 |str a=>
  obtain⟨t',rfl⟩:=ry
  cases x with
  |non=>cases rx;exact SeqAt.EqAt.str_none a t'
  |bl b=>cases rx;exact SeqAt.EqAt.str_bool a t' b
  |int b=>obtain⟨t,rfl⟩:=rx;exact SeqAt.EqAt.str_int a t' b t
  |str b=>obtain⟨t,rfl⟩:=rx;exact SeqAt.EqAt.str_str a t' b t
  |_=>exact absurd (show false=true from fx) ax
 |_=>exact absurd (show false=true from fy) ax
noncomputable def eqU (x:V)(u:Value):Bool:=match u with
 |.none=>eqV .non x
 |.bool b=>eqV (.bl b) x
 |.int i _=>eqV (.int i) x
 |.str z _=>eqV (.str z) x
 |_=>false
theorem Gx {x y:V}{u:Value}(r:RelV y u)(f:qf y=true):eqU x u=eqV y x:=by
 cases y with
 |non=>cases r;rfl
 |bl b=>cases r;rfl
 |int i=>obtain⟨t,rfl⟩:=r;rfl
 |str z=>obtain⟨t,rfl⟩:=r;rfl
 |_=>exact absurd (show false=true from f) ax
theorem sC {x:V} :∀ {xs:List V}{us:List Value},Vals xs us->xs.all qf=true->us.any (eqU x)=xs.any λy=>eqV y x
 |_,_,.nil,_=>rfl
 |y::xs,u::us,.cons r t,f=>by
  rw[eE,bN]at f
  rw[du,du,Gx r f.1,sC t f.2]
theorem qa {A:Around}{s:Shared}{x:V}{v:Value}(rx:RelV x v)(fx:qf x=true):∀ {xs:List V}{us:List Value},Vals xs us->xs.all qf=true->∀ u∈us,SeqAt.EqAt A s u v (eqU x u)
 |_,_,.nil,_=>λu hu=>by cases hu
 |y::xs,u::us,.cons r t,f=>λu' hu=>by
  rw[eE,bN]at f
  rcases ay.mp hu with rfl |hu
  ·rw[Gx r f.1];exact JI r rx f.1 fx
  ·exact qa rx fx t f.2 u' hu
noncomputable def inV (x:V)(xs:List V):Bool:=xs.any λy=>eqV y x
noncomputable def rIn (K:PySem.W.Frag)(neg:Bool):R2:=λx y H Q=>∃ p xs,y = .ref p/\(SqL K H p xs\/SqT K H p xs)/\qf x=true/\xs.all qf=true/\Q (.bl (if neg then !inV x xs else inV x xs)) H
theorem oh:OpR X (compareOp .In) (rIn X.K false):=by
 intro pins s σ H x y v u Q I rx ry h
 obtain⟨p,xs,rfl,hq,fx,fs,q⟩:=h
 cases ry
 rcases hq with hq |hq
 ·obtain⟨its,r,pl,hz⟩:=I.list hq
  refine SeqAt.in_listAt (eqU x) pl.isList (λw hw=>qa rx fx r fs w (by simpa using hw)) ⟨.bl _,H,I,rfl,?_⟩
  rw[show its.toArray.any (eqU x)=its.any (eqU x) by simp,sC r fs]
  exact q
 ·obtain⟨its,r,pl,hz⟩:=I.tuple hq
  refine SeqAt.in_tupleAt (eqU x) pl (λw hw=>qa rx fx r fs w (by simpa using hw)) ⟨.bl _,H,I,rfl,?_⟩
  rw[show its.toArray.any (eqU x)=its.any (eqU x) by simp,sC r fs]
  exact q
theorem rW:OpR X (compareOp .NotIn) (rIn X.K true):=by
 intro pins s σ H x y v u Q I rx ry h
 obtain⟨p,xs,rfl,hq,fx,fs,q⟩:=h
 cases ry
 rcases hq with hq |hq
 ·obtain⟨its,r,pl,hz⟩:=I.list hq
  refine SeqAt.notIn_listAt (eqU x) pl.isList (λw hw=>qa rx fx r fs w (by simpa using hw)) ⟨.bl _,H,I,rfl,?_⟩
  rw[show its.toArray.any (eqU x)=its.any (eqU x) by simp,sC r fs]
  exact q
 ·obtain⟨its,r,pl,hz⟩:=I.tuple hq
  refine SeqAt.notIn_tupleAt (eqU x) pl (λw hw=>qa rx fx r fs w (by simpa using hw)) ⟨.bl _,H,I,rfl,?_⟩
  rw[show its.toArray.any (eqU x)=its.any (eqU x) by simp,sC r fs]
  exact q
theorem rV:OpR X (compareOp .NotIn) (λx y H Q=>∃ i j,x = .str i/\y = .str j/\Q (.bl (!(!(Builtin.Str.occurrences j i 0 j.length 1).isEmpty))) H):=by
 intro pins s σ H x y v u Q I rx ry h
 obtain⟨i,j,rfl,rfl,q⟩:=h
 obtain⟨t,rfl⟩:=rx
 obtain⟨t',rfl⟩:=ry
 exact notIn_str ⟨.bl _,H,I,rfl,q⟩
theorem fI:jY X (.builtin "len") (λxs H Q=>∃ p ys,xs = [.ref p]/\(SqL X.K H p ys\/SqT X.K H p ys)/\Q (.int ys.length) H):=by
 intro pins s σ H xs us Q I r h
 obtain⟨p,ys,rfl,hq,q⟩:=h
 obtain⟨u,rfl,rx⟩:=vals1 r
 cases rx
 have hn:=sY
 rcases hq with hq |hq
 ·obtain⟨its,r',pl,hz⟩:=I.list hq
  have hlen:=r'.length
  exact Calls.call_len_list pl.isList (by simp only[aJ]<;>omega) ⟨.int ys.length,H,I.tok _,⟨s.toks+1,by rw[aJ,hlen]⟩,q⟩
 ·obtain⟨its,r',pl,hz⟩:=I.tuple hq
  have hlen:=r'.length
  exact len_tuple pl (by simp only[aJ]<;>omega) ⟨.int ys.length,H,I.tok _,⟨s.toks+1,by rw[aJ,hlen]⟩,q⟩
theorem ph:jY X (.builtin "len") (λxs H Q=>∃ z,xs = [.str z]/\z.length<=sizeLine/\Q (.int z.length) H):=by
 intro pins s σ H xs us Q I r h
 obtain⟨z,rfl,hz,q⟩:=h
 obtain⟨u,rfl,t,rfl⟩:=vals1 r
 have hn:=sY
 exact len_str (by omega) ⟨.int z.length,H,I.tok _,⟨_,rfl⟩,q⟩
noncomputable def tyV (K:PySem.W.Frag)(T:String)(x:V)(H:Hp):Prop:=match x with
 |.str _=>T = "str"
 |.int _=>T = "int"
 |.ref p=>(T = "list" /\∃ xs,SqL K H p xs)\/(T = "tuple" /\∃ o,K.lookup p=some o/\o.cls = .type "tuple" /\o.dict=none)\/
   (T = "dict" /\((∃ kvs,H p=some (.dK kvs))\/∃ kvs,H p=some (.dT kvs)))\/(T = "set" /\∃ S n,H p=some (.set S n))
 |_=>False
theorem Iy {pins:List (Addr×Obj)}{σ:St}{H:Hp}{s:Shared}{T:String}{x:V}{v:Value}(I:Inv X pins σ H s)(r:RelV x v)(ty:tyV X.K T x H):
  s.TypeIs v T/\∀ a,v = .ref a->∃ ob,s.heap.get? a=some ob/\ob.dict=none:=by
 cases x with
 |str z=>
  obtain⟨t,rfl⟩:=r
  cases(show T = "str" from ty)
  exact⟨dE s z t,λ_ e=>nomatch e⟩
 |int i=>
  obtain⟨t,rfl⟩:=r
  cases(show T = "int" from ty)
  exact⟨typeIs_int s i t,λ_ e=>nomatch e⟩
 |ref p=>
  cases r
  rcases ty with⟨rfl,xs,hq⟩|⟨rfl,o,hk,hc,hd⟩|⟨rfl,hk⟩|⟨rfl,S,n,hk⟩
  ·obtain⟨its,_,pl,_⟩:=I.list hq
   refine⟨pl.isList.typeIs,λa e=>?_⟩
   cases e
   obtain⟨o,n,e,c,hd,_⟩:=pl
   exact⟨o,e,hd⟩
  ·refine⟨⟨o,I.kIn p o hk,hc⟩,λa e=>?_⟩
   cases e
   exact⟨o,I.kIn _ o hk,hd⟩
  ·have z:∃ o,s.heap.get? p=some o/\o.ExactDict:=by
    rcases hk with⟨kvs,hk⟩|⟨kvs,hk⟩
    ·obtain⟨_,_,_,_,o,_,_,e,ex,_⟩:=I.hok p _ hk
     exact⟨o,e,ex⟩
    ·obtain⟨_,_,_,_,o,_,_,e,ex,_⟩:=I.hok p _ hk
     exact⟨o,e,ex⟩
   obtain⟨o,e,ex⟩:=z
   refine⟨⟨o,e,ex.1⟩,λa e2=>?_⟩
   cases e2
   exact⟨o,e,ex.2.1⟩
  ·obtain⟨o,_,_,_,e,ex,_⟩:=I.hok p _ hk
   refine⟨⟨o,e,ex.1⟩,λa e2=>?_⟩
   cases e2
   exact⟨o,e,ex.2.1⟩
 |_=>exact False.elim ty
noncomputable def tBM (K:PySem.W.Frag)(T:String)(r:V->List V->Hp->VK->Prop)(to:TE)(t:TA):TE:=λσ H Q=>to σ H λx H1=>tyV K T x H1/\t σ H1 λxs H2=>r x xs H2 Q
variable {o e:Expr}{es:List Expr}{to:TE}{t:TA}{name:Str}{apos kQ:Pos}{T id:String}{r:V->List V->Hp->VK->Prop}
theorem jt (pa:PlainAttrs T)(slot:Slot T name id)(hty:typeOf (.builtin id)=pure (.type "method_descriptor"))(hm:MtR X id r)(ho:PE X o to)(ha:PA X (e::es) t)
  (AQ:attributeBase o name X.env (eval o X.env)=eval o X.env:=by rfl)
  (Gj:((backTo kQ (starEach (e::es) X.env)).all (λx=> !x.1)&&(backToKw kQ (keywordEach [] X.env)).all (λx=>x.1.isSome)
   && decide ((e::es).length+([]:List Keyword).length+(if([]:List Keyword).isEmpty then 0 else 1)<30))=true:=by rfl)
  (AM:(apos.endLine==kQ.line)=true:=by rfl) (hs:starEach (e::es) X.env=(false,eval e X.env)::starEach es X.env:=by rfl) (v3:(backTo kQ (starEach es X.env)).any (·.1)=false:=by rfl):
  PE X (.Call (.Attribute o name apos) (e::es) [] kQ) (tBM X.K T r to t):=by
 intro pins s σ H Q I h
 refine wpAny_Call_method_late AQ Gj AM rfl (thn (ho pins s σ H _ I h) λv s1 ⟨x,H1,I1,r1,ty,q1⟩=>?_)
 obtain⟨h1,h2⟩:=Iy I1 r1 ty
 refine⟨T,id,pa,slot,hty,h1,h2,?_⟩
 have hA:=ha kQ pins s1 σ H1 _ I1 q1
 rw[hs]at hA ⊢
 refine Calls.callWith_builtin (by show(false||(backTo kQ (starEach es X.env)).any (·.1))=false;rw[v3]<;>rfl) (Calls.evalArgs_plain ?_)
 exact thn hA λus s2 ⟨vs,H2,I2,r2,q2⟩=>hm pins s2 σ H2 x vs v us Q I2 r1 r2 q2
/- xs.append(e),list.index on a KI tuple .. are MtR facts of 06m -/
end
noncomputable def MtM (X:Cx)(id:String)(r:V->List V->Hp->VK->Prop):Prop:=
 ∀ (pins:List (Addr×Obj)) (s:Shared) (σ:St) (H:Hp) (x:V) (xs:List V) (v:Value) (us:List Value) (Q:VK),Inv X pins σ H s->RelV x v->Vals xs us->r x xs H Q->
  wpAny (model X.prog X.w) X.A (call (.builtin id) (v::us)) (EP X pins σ Q) X.xe s
theorem Vals.one:∀ {x:V}{us:List Value},Vals [x] us->∃ u,us = [u]/\RelV x u
 |_,_,.cons r .nil=>⟨_,rfl,r⟩
theorem Vals.two {x y:V}{us:List Value}(h:Vals [x,y] us):∃ u v,us = [u,v]/\RelV x u/\RelV y v:=by
 cases h with
 |cons r t=>
  cases t with
  |cons q n=>
   cases n
   exact⟨_,_,rfl,r,q⟩
section
variable {X:Cx}{pins:List (Addr×Obj)}{σ:St}{H:Hp}{s:Shared}{l b:Addr}{xs ys zs:List V}
theorem Inv.KN {its its':List Value}{n:Nat}{f:Array Value->Array Value}{t':Nat}(I:Inv X pins σ H s)(hH:H l=some (.lst xs))
  (e:s.heap.get? l=some {cls:=.type "list",data:=.seq its.toArray n}) (hf:f its.toArray=its'.toArray) (hv:Vals ys its') (hz:ys.length<=sizeLine):
  Inv X pins σ (upd H l (.lst ys)) {s with heap:=s.heap.update l (Obj.mapSeq f),toks:=t'} :=by
 have q:=PySem.IsL.update e f
 rw[hf]at q
 refine I.write (x:=l) (e:=l) (by rw[hH];exact trivial) (.inl rfl) (λb' u hb hu=>(Heap.get?_update_other s.heap (Obj.mapSeq f) (cB hb)).trans hu) ⟨_,q⟩ ?_
 exact⟨hz,its',_,hv,q⟩
theorem Inv.Hk {its:List Value}{t':Nat}(I:Inv X pins σ H s)(hv:Vals ys its)(hz:ys.length<=sizeLine):
  Inv X pins σ (upd H s.heap.objs.size (.lst ys)) {s with heap:=s.heap.push {cls:=.type "list",data:=.seq its.toArray},toks:=t'} :=
 I.laid (λ_ _ q=>aj _ q) (aw _) ⟨hz,its,0,hv,aM _ rfl⟩
theorem Inv.fresh (I:Inv X pins σ H s):H s.heap.objs.size=none:=I.hok.fresh (aw _)
theorem Inv.DX (I:Inv X pins σ H s)(hH:H l=some (.lst xs)):xs.length<=sizeLine/\∃ (its:List Value) (n:Nat),Vals xs its/\xs.length=its.length/\s.heap.get? l=some {cls:=.type "list",data:=.seq its.toArray n} :=by
 obtain⟨z,its,n,r,e⟩:=I.hok l _ hH
 exact⟨z,its,n,r,r.length,e⟩
end
section
variable {X:Cx}
noncomputable def Ha:V->List V->Hp->VK->Prop:=λx vs H Q=>∃ l xs y,x = .ref l/\vs = [y]/\H l=some (.lst xs)/\xs.length<sizeLine/\Q .non (upd H l (.lst (xs ++ [y])))
theorem ko:MtM X "list.append" Ha:=by
 intro pins s σ H x vs v us Q I rx rv h
 obtain⟨l,xs,y,rfl,rfl,hH,hz,q⟩:=h
 cases rx
 obtain⟨u,rfl,ru⟩:=rv.one
 obtain⟨z,its,n,r,hl,e⟩:=I.DX hH
 refine dF F.slot_list_append ⟨_,e,rfl⟩ F.entry_list_append (F.args_list_append_2 _ _) (PySem.list_append l its.toArray n u (by rw[aJ];omega)) ⟨e,?_⟩
 refine⟨.non,_,I.KN (its':=its ++ [u]) hH e (by simp) (r.append (.cons ru .nil)) ?_,rfl,q⟩
 rw[aG,List.length_singleton]
 omega
noncomputable def M3:R2:=λx y H Q=>∃ l b xs zs,x = .ref l/\y = .ref b/\H l=some (.lst xs)/\H b=some (.lst zs)/\xs.length+zs.length<=sizeLine/\∀ p,H p=none->Q (.ref p) (upd H p (.lst (xs++zs)))
theorem iP:OpR X (binaryOp .Add) M3:=by
 intro pins s σ H x y v u Q I rx ry h
 obtain⟨l,b,xs,zs,rfl,rfl,hH,hB,hz,q⟩:=h
 cases rx
 cases ry
 obtain⟨z,its,n,r,hl,e⟩:=I.DX hH
 obtain⟨z2,Ec,n2,r2,hl2,e2⟩:=I.DX hB
 refine PySem.P.add_list e e2 ?_ (by rw[aJ,aJ];omega)
 have ea:its.toArray++Ec.toArray=(its++Ec).toArray:=by simp
 rw[ea]
 exact⟨.ref _,_,I.Hk (t':=s.toks) (r.append r2) (by rw[aG];omega),rfl,q _ I.fresh⟩
end
end L2
namespace Att
open PySem PySem.W PySem.Calls PyProof.Rows
theorem uA {P:Params}{h:Heap} :∀ (ns:List Int) (vs:List Value),WellAll P h vs (ns.map WData.int)->IntsAre vs ns:=by
 intro ns
 induction ns with
 |nil=>
  intro vs w
  rw[dQ]at w
  cases w
  exact .nil
 |cons n ns ih=>
  intro vs w
  rw[aN]at w
  cases w with
  |cons a b=>
   cases a
   exact .cons _ _ (ih _ b)
theorem DB {l:OpenLaw}{n:Nat}(hn:l.most=some n){P:Params}{h:Heap}{args:List WData}{vals:List Value}
  (Ht:l.row.toRowW.claim.pre args=true) (hwl:WellAll P h vals args):
  ∃ a vs ns,vals = [Value.ref a]/\args = [WData.list (ns.map WData.int)]/\h.get? a=some {cls:=.type "list",data:=.seq vs.toArray} /\IntsAre vs ns/\ns.length<=n:=by
 have hsh:WShape.hasAll [] args [.list .int]=true:=(pre_splitW Ht).1
 have hc:l.pre.holds [] {args:=args} = true:=(pre_splitW Ht).2
 obtain⟨d,r,rfl,h1,h2⟩:=hasAllW_cons hsh
 obtain rfl:=hasAllW_nil h2
 obtain⟨xs,rfl,h3⟩:=hasW_list h1
 obtain⟨ns,rfl⟩:=items_int h3
 have hlen:ns.length<=n:=by
  unfold OpenLaw.pre at hc
  have h4:(WTm.not (.lt (.lit (.int (n:Int))) (.len (.arg 0)))).holds [] {args:=[.list (ns.map .int)]} = true:=by
   have h4:=(holds_andW hc).1
   rw[hn]at h4
   exact h4
  have h5:=condW_of h4 (w_not (w_lt w_lit (w_len_list (w_arg rfl))))
  rw[aa]at h5
  refine Nat.le_of_not_lt λq=>?_
  have q':(n:Int)<((ns.length:Nat):Int):=by omega
  first
   |(rw[cP q']at h5;exact absurd h5 (by decide))
   |(simp at h5;omega)
 cases hwl with
 |cons w1 w2=>
  cases w2
  cases w1 with
  |list ho lS=>exact⟨_,_,ns,rfl,rfl,ho,uA ns _ lS,hlen⟩
theorem DJ (l:OpenLaw)(args:List WData):l.row.toRowW.claim.post args (.bool true) args=true:=
 postW_of (r:=l.row.toRowW) (X:=(true==true))
  (show WShape.has [] (.bool true) .bool=true by first |rfl |decide |simp[WShape.has,WShape.arms,WShape.armsAll])
  (show(WTm.eq .res (.lit (.bool true))).value [] {args:=args,res:=some (.bool true),after:=args} = some (.bool (true==true)) from w_eq_bool (w_res rfl) w_lit) rfl
theorem A8 {l:OpenLaw}{n:Nat}{q:Program}{loose:List Str}{XP:(Str->Option Value)->Heap->Prop}{YP:World->Heap->Prop}{d:DefRec}
  (hn:l.most=some n) (hdf:d.params.defaults = [])
  (call:∀ (w:World) (s₀ s₁:Shared) (mg mb:Str->Option Value) (fa:Addr) (o:Obj) (pm cd doc:Value) (a:Addr) (vs:List Value) (ns:List Int),
   Ground q loose [] XP w s₀ mg mb s₁.heap->YP w s₁.heap->
   s₁.heap.get? fa=some o->o.data = .func (docDef d.name d.params d.body d.scope pm cd doc)->s₁.heap.CodeRec cd d.name->mg d.name=some (.ref fa)->
   s₁.heap.get? a=some {cls:=.type "list",data:=.seq vs.toArray} ->IntsAre vs ns->ns.length<=n->s₁.gens = #[]->
   codeAny (model l.prog w) callerA (.call (.ref fa) ⟨[.ref a],[]⟩) (λr s'=>r = .ok (.ret (.bool true))/\OldK s₁.heap s'.heap/\s'.os=s₁.os/\AllBare s'.gens) s₁):
  WalkO q loose XP YP l.row.toRowW d [] (λf vs=>PySem.call f vs):=by
 intro w s₀ s₁ mg mb G Y fa o pm cd doc dV kV ho hd hcd hD hmg hg args vals as Ht Xv hrd hwl hlo
 obtain rfl:dV = .none:=Dflts.none hD hdf
 obtain rfl:kV = .none:=Dflts.noKw hD
 obtain⟨a,vs,ns,rfl,rfl,Ju,hints,hlen⟩:=DB hn Ht hwl
 refine enter_call (cZ (call w s₀ s₁ mg mb fa o pm cd doc a vs ns G Y ho (fd_plain hd) hcd hmg Ju hints hlen hg) λr s' hq=>?_)
 obtain⟨rfl,h2,h3,h4⟩:=hq
 exact⟨.inl ⟨.bool true,.bool true,[],rfl,λ_=>rfl,.bool true,DJ l _,λ_=>⟨List.Pairwise.nil,λ_ hm=>(nomatch hm)⟩⟩,h2,h3,h4⟩
end Att
namespace L2
open PySem PySem.Spec PyProof.Rows
theorem sI:∀ {vs:List Value}{ns:List Int},IntsAre vs ns->Vals (ns.map V.int) vs
 |_,_,.nil=>.nil
 |_,_,.cons n t h=>.cons ⟨t,rfl⟩ (sI h)
noncomputable def JR (H:Hp):Prop:=∀ b,H b=none\/∃ o xs,H b=some (.frz o (.lst xs))
theorem F2 {P:Program}{w:World}{K:PySem.W.Frag}{mg mb:Str->Option Value}{CX:CXT}{k:Nat}{fa a:Addr}{fd:FuncData}{x:Str}{sp:Sp}{s₁:Shared}{vs:List Value}{ns:List Int}
  (KX:K.In s₁.heap) (hns:s₁.heap.Ns mainGlobals mg) (hb:s₁.heap.Ns builtinsNs mb) (hbb:∀ x:Str,x≠ "__name__" ->mb x=bootBuiltins x) (Sj:s₁.heap.NoLimit) (hg:s₁.gens = #[])
  (ha:s₁.heap.get? a=some {cls:=.type "list",data:=.seq vs.toArray}) (hi:IntsAre vs ns) (hl:ns.length<=sizeLine) (hr:kS k callerA)
  (F:∀ base:Heap,K.In base->base.Ns mainGlobals mg->eX P w K mg base CX k fa fd [x] sp) (La:∀ (s:Shared) (u:Value),BindsTo s fd ⟨[u],[]⟩ [(x,u)])
  (hsp:∀ H:Hp,JR H->SqL K H a (ns.map V.int)->sp [.ref a] H (λv _=>v = .bl true) λ_ _ _=>False)
  (hCX:∀ H e s',CX [] H s₁ (λ_ _ _=>False) e s'->False):
  codeAny (model P w) callerA (.call (.ref fa) ⟨[.ref a],[]⟩) (λr s'=>r = .ok (.ret (.bool true))/\OldK s₁.heap s'.heap/\s'.os=s₁.os/\AllBare s'.gens) s₁:=by
 have rv:=sI hi
 have QV:=hi.length
 have core:∀ H:Hp,JR H->SqL K H a (ns.map V.int)->HOk P w H s₁.heap->(∀ b,H b≠none->b=a)->(H a≠none->K.lookup a=none)->
   codeAny (model P w) callerA (.call (.ref fa) ⟨[.ref a],[]⟩) (λr s'=>r = .ok (.ret (.bool true))/\OldK s₁.heap s'.heap/\s'.os=s₁.os/\AllBare s'.gens) s₁:=by
  intro H hO hS hok hA hK
  have Dc:∀ {b:Addr}{o:Obj},s₁.heap.get? b=some o->H b=none->(zq s₁.heap H).get? b=some o:=λe n=>Gh e n
  have noA:∀ {b:Addr}{o:Obj}{es:Array DictEntry}{ep:Nat},s₁.heap.get? b=some o->o.data = .dict es ep->H b=none:=λ{b o es ep} e d=>by
   cases q:H b with
   |none=>rfl
   |some u=>
    have e':b=a:=hA b (by rw[q];simp)
    subst e'
    rw[ha]at e;cases e
    have d':Data.seq vs.toArray _=Data.dict es ep:=d
    cases d'
  have nsK:∀ {b:Addr}{m:Str->Option Value},s₁.heap.Ns b m->(zq s₁.heap H).Ns b m:=λ{b m} ⟨o,es,ep,e,d,r⟩=>⟨o,es,ep,Dc e (noA e d),d,r⟩
  have hKb:K.In (zq s₁.heap H):=λb o e=>Dc (KX b o e) (by
   cases q:H b with
   |none=>rfl
   |some u=>
    have e':b=a:=hA b (by rw[q];simp)
    subst e'
    rw[hK (by rw[q];simp)]at e;cases e)
  have hM:Mod K mg (zq s₁.heap H):=⟨hKb,nsK hns,⟨mb,nsK hb,hbb⟩,let ⟨mc,h1,h2⟩:=Sj;⟨mc,nsK h1,h2⟩⟩
  have e0:B0 P w K mg (zq s₁.heap H) callerA [] s₁ H:=⟨rfl,hM,λb o e=>Hi e,Nat.le_of_eq (Eh _ _),trivial,λb hb=>absurd (show b∈([]:List Addr) from hb) (by simp),hok,.of_eq hg⟩
  refine cZ ((F _ hKb (nsK hns)).run callerA [] s₁ H ⟨[.ref a],[]⟩ [.ref a] [.ref a] _ _ hr e0 (La s₁ (.ref a)) (.cons rfl .nil) (hsp H hO hS)) λr s' h=>?_
  cases r with
  |error e=>exact(hCX H e s' h).elim
  |ok fl=>
   cases fl with
   |next=>exact False.elim h
   |brk=>exact False.elim h
   |cont=>exact False.elim h
   |ret u=>
    obtain⟨v,H',os,bare,un,Se,r',q⟩:=h
    have q':v = .bl true:=q
    subst q'
    obtain rfl:u=Value.bool true:=r'
    refine⟨rfl,OldK.of_keep λb o e=>?_,os,bare⟩
    cases q:H b with
    |none=>exact un.keep b o e q (by intro z;exact absurd (show b∈([]:List Addr) from z) (by simp)) (by simp)
    |some u=>
     rcases hO b with z |⟨ob,xs,z⟩
     ·rw[q]at z;cases z
     ·have z2:=un.qR b ob _ z
      obtain⟨e1,_⟩:=hok b _ z
      obtain⟨e2,_⟩:=Se b _ z2
      rw[e]at e1;cases e1
      exact e2
 cases hk:K.lookup a with
 |some o=>
  have e:=KX a o hk
  rw[ha]at e
  cases e
  refine core (λ_=>none) (λ_=>.inl rfl) (.inr ⟨_,vs.toArray,_,hk,rfl,rfl,rfl,by rw[aJ,QV];exact hl,by simpa using rv⟩) (λb u z=>by have z':(none:Option HO)=some u:=z;cases z') (λb z=>absurd rfl z) λz=>absurd rfl z
 |none=>
  refine core (λb=>if b=a then some (.frz {cls:=.type "list",data:=.seq vs.toArray} (.lst (ns.map V.int)))else none) (λb=>?_) (.inl (.inr ⟨{cls:=.type "list",data:=.seq vs.toArray},av rfl⟩)) (λb u z=>?_) (λb z=>?_) λ_=>hk
  ·by_cases hb:b=a
   ·exact .inr ⟨_,_,av hb⟩
   ·exact .inl (ak hb)
  ·by_cases hb:b=a
   ·have z':=(av hb).symm.trans z
    cases z'
    subst hb
    exact⟨ha,by rw[aa];exact hl,vs,_,rv,ha⟩
   ·have z':=(ak hb).symm.trans z
    cases z'
  ·by_cases hb:b=a
   ·exact hb
   ·exact absurd (ak hb) z
noncomputable abbrev KOf {K:PySem.W.Frag}{h:Heap}(_:K.In h):PySem.W.Frag:=K
theorem GL {l:PySem.W.OpenLaw}{n k:Nat}{q:Program}{loose:List Str}{XP:(Str->Option Value)->Heap->Prop}{YP:World->Heap->Prop}{d:DefRec}{K:Params->PySem.W.Frag}{CX:World->CXT}{sp:World->Sp}{x:Str}
  (hn:l.most=some n) (hn2:n<=sizeLine) (hdf:d.params.defaults = []) (hr:kS k callerA)
  (hY:∀ (w:World) (h:Heap),YP w h->(K w.params).In h)
  (F:∀ (w:World) (mg:Str->Option Value) (fa:Addr) (h:Heap),(K w.params).In h->h.Ns mainGlobals mg->mg d.name=some (.ref fa)->
   ∃ fd:FuncData,(∀ (s:Shared) (u:Value),BindsTo s fd ⟨[u],[]⟩ [(x,u)])/\
    ∀ base:Heap,(K w.params).In base->base.Ns mainGlobals mg->eX l.prog w (K w.params) mg base (CX w) k fa fd [x] (sp w))
  (hsp:∀ (w:World) (H:Hp) (a:Addr) (ns:List Int),ns.length<=n->JR H->SqL (K w.params) H a (ns.map V.int)->sp w [.ref a] H (λv _=>v = .bl true) λ_ _ _=>False)
  (hCX:∀ (w:World) (H:Hp) (s:Shared) (e:Value) (s':Shared),CX w [] H s (λ_ _ _=>False) e s'->False):
  PySem.W.WalkO q loose XP YP l.row.toRowW d [] (λf vs=>PySem.call f vs):=by
 refine Att.A8 hn hdf λw s₀ s₁ mg mb fa o pm cd doc a vs ns G Y ho hd hcd hmg Ju hints hlen hg=>?_
 have KX:=hY w _ Y
 obtain⟨fd,hb,hF⟩:=F w mg fa _ KX G.T.g hmg
 exact F2 KX G.T.g G.T.b G.T.builtins G.T.nolimit hg Ju hints (aT hlen hn2) hr hF hb (λH hO hS=>hsp w H a ns hlen hO hS) λH e s'=>hCX w H s₁ e s'
noncomputable def inClass (s:Stmt)(j:Nat):Stmt:=match s with
 |.ClassDef _ _ _ body _ _ _ _ _ _ _=>body.getD j (.Pass ⟨0,0,0,0⟩)
 |_=>.Pass ⟨0,0,0,0⟩
noncomputable def lC (s:Stmt):Arguments:=match s with
 |.FunctionDef _ a _ _ _ _ _ _ _ _=>a
 |_=>{posonlyargs:=[],args:=[],vararg:=none,kwonlyargs:=[],kw_defaults:=[],kwarg:=none,defaults:=[]}
noncomputable def j4 (s:Stmt):List Stmt:=match s with
 |.FunctionDef _ _ b _ _ _ _ _ _ _=>b
 |_=>[]
noncomputable def eT (s:Stmt):Scope:=match s with
 |.FunctionDef _ _ _ _ _ _ sc _ _ _=>sc
 |_=>{kind:=.function,names:=[],isGenerator:=false,isCoroutine:=false}
noncomputable abbrev CX0:CXT:=λ_ _ _ _ _ _=>False
noncomputable abbrev E0:XK:=λ_ _ _=>False
theorem fo {X:Cx} :Passes CX0 X E0:=λ_ _ _ _ _ _ _ h=>h.elim
structure Fun (K:PySem.W.Frag)(x qual:Str)(st:Stmt)(f:Addr)(fd:FuncData):Prop where
 ex:∃ (oc:Value) (od:Option Addr) (kV doc pm:Value) (an:Option Addr) (cdv ct:Value) (osl:Array (Option Value)),
  fd=PySem.W.fnOf x qual (lC st) (j4 st) (eT st) .none kV doc pm an cdv ct/\K.lookup f=some ⟨oc,od,.func fd,osl⟩/\PySem.W.codeIn K cdv qual=true
 kp:PySem.W.keepIn K (.ref f)=true
section
variable {P:Program}{w:World}{K:PySem.W.Frag}{mg:Str->Option Value}{base:Heap}
theorem Fun.ok {x qual:Str}{st:Stmt}{f:Addr}{fd:FuncData}{N ps:List Str}{k:Nat}{sp:Sp}(F:Fun K x qual st f fd)(S:fh N ps (eT st))(len:∀ vs H Q E,sp vs H Q E->vs.length=ps.length)
  (AO:∀ (cdv:Value) (A:Around) (outer:List Env) (s:Shared) (H:Hp) (vs:List V) (Q:VK) (E:XK),kS k (A.deeper (envOfC qual (eT st) s.heap.objs.size f cdv))->sp vs H Q E->
   ∃ t,PSs (xm CX0 P w K mg base N qual (eT st) f cdv A outer s H E).nox (j4 st) t/\t {nx:=λ_ H'=>Q .non H',rt:=Q} (start N vs) H):eX P w K mg base CX0 (k+1) f fd ps sp:=by
 obtain⟨oc,od,kV,doc,pm,an,cdv,ct,osl,rfl,lk,hcd⟩:=F.ex
 refine Ij lk hcd S len λA outer s H vs Q E hr hsp=>?_
 obtain⟨t,h,q⟩:=AO cdv A outer s H vs Q E hr hsp
 exact⟨t,h.nox,q⟩
theorem Fun.binds {x qual:Str}{st:Stmt}{f:Addr}{fd:FuncData}{ps:List Str}(F:Fun K x qual st f fd)
  (h:∀ (kV doc pm:Value) (an:Option Addr) (cdv ct:Value) (us:List Value),us.length=ps.length->bindArgs (PySem.W.fnOf x qual (lC st) (j4 st) (eT st) .none kV doc pm an cdv ct) ⟨us,[]⟩=pure (ps.zip us)):Binds K fd ps []:=by
 obtain⟨oc,od,kV,doc,pm,an,cdv,ct,osl,rfl,lk,hcd⟩:=F.ex
 exact .all (h kV doc pm an cdv ct)
theorem tw {x qual:Str}{st:Stmt}{f:Addr}{oc:Value}{od an:Option Addr}{osl:Array (Option Value)}{kV doc pm cdv ct:Value}(l:K.lookup f=some ⟨oc,od,.func (PySem.W.fnOf x qual (lC st) (j4 st) (eT st) .none kV doc pm an cdv ct),osl⟩)
  (c:PySem.W.codeIn K cdv qual=true) (k:PySem.W.keepIn K (.ref f)=true):Fun K x qual st f (PySem.W.fnOf x qual (lC st) (j4 st) (eT st) .none kV doc pm an cdv ct):=⟨⟨oc,od,kV,doc,pm,an,cdv,ct,osl,rfl,l,c⟩,k⟩
end
theorem Ib {A:Around}{k:Nat}(hr:kS k A):A.units+1<cLine:=bA (Nat.add_le_add_left (by decide:1<=64) _) hr.units
section
variable {X:Cx}
theorem pv (i:Nat){x:Str}{pos:Pos}(hN:X.N[i]? = some x:=by rfl)(hv:Vis X.env.scope x:=by first |exact Or.inl rfl |exact Or.inr (Or.inl rfl)|exact Or.inr (Or.inr rfl))(hd:(x==("__debug__" :Str))=false:=by decide)
  (hcd:(x==("__classdict__" :Str))=false:=by decide):PE X (.Name x pos) (Dz i):=Fw hN hv hd hcd
end
theorem kJ {A B:Prop}(h:B):if false=true then A else B:=by
 rw[ak ax]
 exact h
theorem ib {A B:Prop}(h:A):if true=true then A else B:=by
 rw[av rfl]
 exact h
theorem fG {c A B:Prop} [Decidable c] (h1:c->A)(h2:¬c->B):if c then A else B:=by
 by_cases h:c
 ·rw[av h]
  exact h1 h
 ·rw[ak h]
  exact h2 h
noncomputable def eW (H H':Hp):Prop:=∀ b o,H b=some o->H' b=some o
theorem eW.refl (H:Hp):eW H H:=λ_ _ h=>h
theorem eW.trans {H H1 H2:Hp}(a:eW H H1)(b:eW H1 H2):eW H H2:=λc o h=>b c o (a c o h)
theorem eW.free {H H':Hp}(e:eW H H'){l:Addr}(h:H' l=Option.none):H l=Option.none:=by
 cases q:H l with
 |none=>rfl
 |some o=>
  rw[e l o q]at h
  cases h
theorem eW.seq {K:PySem.W.Frag}{H H':Hp}{a:Addr}{xs:List V}(e:eW H H')(h:SqL K H a xs):SqL K H' a xs:=by
 rcases h with(h |⟨o,h⟩)|h
 ·exact .inl (.inl (e _ _ h))
 ·exact .inl (.inr ⟨o,e _ _ h⟩)
 ·exact .inr h
theorem AK {P:Program}{w:World}{k:Key}{u:Value}(r:RelV (kV k) u):(gq P w).is k u=true:=by
 cases k with
 |inl i=>obtain⟨t,e⟩:=(show ∃ t,u=Value.int i t from r);subst e;exact AA P w i t
 |inr x=>obtain⟨t,e⟩:=(show ∃ t,u=Value.str x t from r);subst e;exact Az P w x t
theorem ye {P:Program}{w:World} :∀ {ks:List Key}{us:List Value},Vals (ks.map kV) us->ItemsAre (gq P w) ks us
 |[],_,r=>by rw[dQ]at r;cases r;exact .nil
 |k::ks,_,r=>by
  rw[aN]at r
  cases r with
  |cons h t=>exact .cons (AK h) (ye t)
noncomputable abbrev KT (H:Hp):List (List Key×V)->List (List Key×Addr×Value)->Prop:=Paired λp q=>p.1=q.1/\H q.2.1=some (.tup (p.1.map kV))/\RelV p.2 q.2.2
noncomputable def Lp (i:Expr):Prop:=∀ ov iv,subscripted i false ov iv=operate [ov,iv] (getItem ov iv)
theorem GS {prog:Program}{w:World}{A:Around}{E:Value->Shared->Prop}{s:Shared}{env:Env}{value slice:Expr}{pos:Pos}{T id:String}{Q:Value->Shared->Prop}
  (hl:typeLookup (.type T) "__getitem__" = pure (some (.builtin id))) (hs:Lp slice)
  (h:wpAny (model prog w) A (eval value env) (λo s₁=>wpAny (model prog w) A (eval slice env) (λi s₂=>s₂.TypeIs o T/\wpAny (model prog w) A (getItem o i) Q E s₂) E s₁) E s):
  wpAny (model prog w) A (eval (.Subscript value slice pos) env) Q E s:=by
 refine Subscript_ (aR h (λo s₁ h₁=>aR h₁ (λi s₂ h₂=>?_) λ_ _ x=>x) λ_ _ x=>x)
 obtain⟨hT,h₂⟩:=h₂
 unfold subscriptTail
 refine ae ?_
 rw[getitemInPython_of_ne hT.not_modules]
 refine ae (dZ hT hl ?_)
 have fin:wpAny (model prog w) A (subscripted slice false o i) (λr s₃=>wpAny (model prog w) A (letTemporaryGo value o r >>= λ_=>pure r) Q E s₃) E s₂:=by
  rw[hs o i]
  exact wpAny_operating (aR h₂ (λr s₃ h₃=>ae (wpAny_letTemporaryGo (ao h₃))) λ_ _ x=>x)
 first
  |exact ao (ae fin)
  |exact ae (ao (ae fin))
  |exact ae fin
noncomputable abbrev VV:List (V×V)->List (Value×Value)->Prop:=Paired λp q=>RelV p.1 q.1/\RelV p.2 q.2
end L2
namespace TL
open PySem
theorem we {α β:Type}{f:α->β->Sem (ForInStep β)}(P:List α->β->Prop)
  (step:∀ x l c,P (x::l) c->∃ c',f x c=pure (.yield c')/\P l c'):∀ (l:List α) (c:β),P l c->∃ c',forIn l c f=pure c'/\P [] c'
 |[],c,h=>⟨c,rfl,h⟩
 |x::l,c,h=>by
  obtain⟨c1,e,h1⟩:=step x l c h
  obtain⟨c2,e2,h2⟩:=we P step l c1 h1
  refine⟨c2,?_,h2⟩
  rw[List.forIn_cons,e,pure_bind]
  exact e2
theorem pf {scope:Scope}{env:Env}(h:∀ y∈scope.names,y.2 = .free->∃ c,env.cells.lookup y.1=some c):
  ∃ cl,closureFor scope env=pure cl/\(∀ x c,cl.lookup x=some c->env.cells.lookup x=some c)/\(∀ y∈scope.names,y.2 = .free->∃ c,cl.lookup y.1=some c):=by
 let P:List (Str×NameKind)->List (Str×Addr)->Prop:=λl c=>(∀ y∈l,y.2 = .free->∃ c,env.cells.lookup y.1=some c)/\(∀ x a,c.lookup x=some a->env.cells.lookup x=some a)/\
  (∀ y∈scope.names,y.2 = .free->y∈l\/∃ a,c.lookup y.1=some a)
 simp only[closureFor]
 obtain⟨cl,e,_,h2,h3⟩:=we (f:=λ(x:Str×NameKind) (r:List (Str×Addr))=>if(x.2==NameKind.free)=true then cellOf env x.1 >>= λc=>pure (ForInStep.yield ((x.1,c)::r))else pure (ForInStep.yield r)) P (by
  rintro⟨n,k⟩ l c ⟨p1,p2,p3⟩
  by_cases hk:k = .free
  ·subst hk
   obtain⟨a,ha⟩:=p1 _ au rfl
   refine⟨(n,a)::c,?_,λy hy=>p1 y (aq _ hy),λx b hb=>?_,λy hy hf=>?_⟩
   ·have ha':env.cells.lookup n=some a:=ha
    simp[cellOf,ha']
   ·rw[bw]at hb
    by_cases hx:(x==n)=true
    ·rw[hx]at hb
     have e1:x=n:=by simpa using hx
     subst e1
     cases hb
     exact ha
    ·have hx':(x==n)=false:=by simpa using hx
     rw[hx']at hb
     exact p2 x b hb
   ·by_cases hx:(y.1==n)=true
    ·exact .inr ⟨a,by rw[bw,hx]⟩
    ·have hx':(y.1==n)=false:=by simpa using hx
     rcases p3 y hy hf with q |⟨b,q⟩
     ·rcases ay.mp q with q |q
      ·exact absurd (by rw[q];simp) hx
      ·exact .inl q
     ·exact .inr ⟨b,by rw[bw,hx'];exact q⟩
  ·refine⟨c,?_,λy hy=>p1 y (aq _ hy),p2,λy hy hf=>?_⟩
   ·have:(k==NameKind.free)=false:=by simpa using hk
    simp[this]
   ·rcases p3 y hy hf with q |q
    ·rcases ay.mp q with q |q
     ·subst q;exact absurd hf hk
     ·exact .inl q
    ·exact .inr q) scope.names [] ⟨h,λx a hx=>by simp at hx,λy hy _=>.inl hy⟩
 refine⟨cl,?_,h2,λy hy hf=>?_⟩
 ·refine Eq.trans ?_ (bF (λt:Sem (List (Str×Addr))=>t >>= λr=>pure r) e)
  rfl
 ·rcases h3 y hy hf with q |q
  ·cases q
  ·exact q
theorem lY {env:Env} :∀ {names:List (Str×NameKind)}{x:Str},names.lookup x=some .free->
  (names.map λ(n,k)=>if(k==NameKind.free&&env.scope.kind == .function&&env.kindOf n==some .cell)then(n,NameKind.cell)else(n,k)).lookup x=some .cell\/
  (names.map λ(n,k)=>if(k==NameKind.free&&env.scope.kind == .function&&env.kindOf n==some .cell)then(n,NameKind.cell)else(n,k)).lookup x=some .free
 |[],_,h=>by simp at h
 |(n,k)::r,x,h=>by
  have ih:=@lY env r x
  show List.lookup x ((if(k==NameKind.free&&env.scope.kind == .function&&env.kindOf n==some .cell)=true then(n,NameKind.cell)else(n,k))::_)=_\/List.lookup x ((if(k==NameKind.free&&env.scope.kind == .function&&env.kindOf n==some .cell)=true then(n,NameKind.cell)else(n,k))::_)=_
  cases hx:x==n with
  |true=>
   simp only[bw,hx]at h
   cases h
   by_cases hc:(NameKind.free==NameKind.free&&env.scope.kind == .function&&env.kindOf n==some .cell)=true
   ·rw[av hc];left;simp[bw,hx]
   ·rw[ak hc];right;simp[bw,hx]
  |false=>
   simp only[bw,hx]at h
   by_cases hc:(k==NameKind.free&&env.scope.kind == .function&&env.kindOf n==some .cell)=true
   ·rw[av hc];simp only[bw,hx];exact ih h
   ·rw[ak hc];simp only[bw,hx];exact ih h
theorem lH {env:Env} :∀ {names:List (Str×NameKind)}{x:Str},(∀ y∈names,y.2≠ .cell)->
  ((names.map λ(n,k)=>if(k==NameKind.free&&env.scope.kind == .function&&env.kindOf n==some .cell)then(n,NameKind.cell)else(n,k)).lookup x=some .cell\/
  (names.map λ(n,k)=>if(k==NameKind.free&&env.scope.kind == .function&&env.kindOf n==some .cell)then(n,NameKind.cell)else(n,k)).lookup x=some .free)->∃ y∈names,y.1=x/\y.2 = .free
 |[],_,_,h=>by simp at h
 |(n,k)::r,x,hn,h=>by
  have ih:=@lH env r x (λy hy=>hn y (aq _ hy))
  change List.lookup x ((if(k==NameKind.free&&env.scope.kind == .function&&env.kindOf n==some .cell)=true then(n,NameKind.cell)else(n,k))::_)=_\/List.lookup x ((if(k==NameKind.free&&env.scope.kind == .function&&env.kindOf n==some .cell)=true then(n,NameKind.cell)else(n,k))::_)=_ at h
  cases hx:x==n with
  |true=>
   have e:x=n:=by simpa using hx
   by_cases hc:(k==NameKind.free&&env.scope.kind == .function&&env.kindOf n==some .cell)=true
   ·have hk:k = .free:=by
     simp only[bN,cG]at hc
     exact hc.1.1
    exact⟨(n,k),au,e.symm,hk⟩
   ·rw[ak hc]at h
    simp only[bw,hx]at h
    rcases h with h |h
    ·exact absurd (aZ h) (hn (n,k) au)
    ·exact⟨(n,k),au,e.symm,aZ h⟩
  |false=>
   have h':(r.map λ(n,k)=>if(k==NameKind.free&&env.scope.kind == .function&&env.kindOf n==some .cell)then(n,NameKind.cell)else(n,k)).lookup x=some .cell\/
     (r.map λ(n,k)=>if(k==NameKind.free&&env.scope.kind == .function&&env.kindOf n==some .cell)then(n,NameKind.cell)else(n,k)).lookup x=some .free:=by
    by_cases hc:(k==NameKind.free&&env.scope.kind == .function&&env.kindOf n==some .cell)=true
    ·rw[av hc]at h;simpa only[bw,hx]using h
    ·rw[ak hc]at h;simpa only[bw,hx]using h
   obtain⟨y,hy,e⟩:=ih h'
   exact⟨y,aq _ hy,e⟩
section
variable {prog:Program}{w:World}{A:Around}{R:Result->Shared->Prop}{s:Shared}
noncomputable abbrev uF (ifs:List Expr)(env:Env):Sem Bool:=forIn ifs true λc r=>if r=true then do let ok <-isTrue c env (eval c env);pure (ForInStep.yield ok)else pure (ForInStep.yield r)
theorem A4 {elt target iter:Expr}{ifs:List Expr}{scope:Scope}{pos:Pos}{it acc:Value}{env:Env}(I:Nat->Shared->Prop)
  (turn:∀ n s,I n s->wpAny (model prog w) A (pyNext it) (λr s₁=>match r with
   |none=>R (.ok .next) s₁
   |some v=>wpAny (model prog w) A (letOwnedTupleGo target it v) (λ_ s₀=>wpAny (model prog w) A (assign target env v) (λ_ s₂=>
     wpAny (model prog w) A (uF ifs env) (λok s₃=>
      if ok=true then wpAny (model prog w) A (eval elt env) (λx s₄=>
       wpAny (model prog w) A (call (.builtin "list.append") [acc,x]) (λ_ s₅=>∃ m,m<n/\I m s₅) (λ_ _=>False) s₄) (λ_ _=>False) s₃
      else ∃ m,m<n/\I m s₃) (λ_ _=>False) s₂) (λ_ _=>False) s₀) (λ_ _=>False) s₁) (λ_ _=>False) s)
  (n:Nat) (h:I n s):
  codeAny (model prog w) A (.compLoop (.ListComp elt [⟨target,iter,ifs,0⟩] scope pos) 0 it acc env) R s:=by
 refine codeAny_loop rfl I (λn s hI=>?_) n h
 show wpAny _ A ((compTurn (.ListComp elt [⟨target,iter,ifs,0⟩] scope pos) 0 it acc env).onRaise (λx=>do noteFrame x env;theTreesLotGoes x)) _ _ s
 refine wpAny_noted ?_
 rw[compTurn_list]
 refine ae (cn (ae (aR (turn n s hI) (λr s₁ h₁=>?_) λ_ _ h'=>h'.elim)))
 cases r with
 |none=>exact ao h₁
 |some v=>
  refine ae (aR h₁ (λ_ s₀ h₀=>?_) λ_ _ h'=>h'.elim)
  refine ae (aR h₀ (λ_ s₂ h₂=>ae (aR h₂ (λok s₃ h₃=>?_) λ_ _ h'=>h'.elim)) λ_ _ h'=>h'.elim)
  cases ok with
  |false=>exact ao ⟨rfl,h₃⟩
  |true=>
   exact ae (ae (aR h₃ (λx s₄ h₄=>ae (aR h₄ (λ_ s₅ h₅=>ao (ao ⟨rfl,h₅⟩)) λ_ _ h'=>h'.elim)) λ_ _ h'=>h'.elim))
theorem zx (elt target iter:Expr)(ifs:List Expr)(scope:Scope)(pos:Pos)(it acc:Value)(env:Env):
  compTurn (.SetComp elt [⟨target,iter,ifs,0⟩] scope pos) 0 it acc env=(do
   standAt iter.pos
   match <-pyNext it with
   |none=>pure (.done .next)
   |some v=>
    letOwnedTupleGo target it v
    assign target env v
    let mut ok:=true
    for c in ifs do
     if ok then ok <-isTrue c env (eval c env)
    if ok then
     (do let v <-eval elt env;standAt elt.pos;let _ <-call (.builtin "set.add") [acc,v])
    again (.compLoop (.SetComp elt [⟨target,iter,ifs,0⟩] scope pos) 0 it acc env)):=by rfl
theorem zz {elt target iter:Expr}{ifs:List Expr}{scope:Scope}{pos:Pos}{it acc:Value}{env:Env}(I:Nat->Shared->Prop)
  (turn:∀ n s,I n s->wpAny (model prog w) A (pyNext it) (λr s₁=>match r with
   |none=>R (.ok .next) s₁
   |some v=>wpAny (model prog w) A (letOwnedTupleGo target it v) (λ_ s₀=>wpAny (model prog w) A (assign target env v) (λ_ s₂=>
     wpAny (model prog w) A (uF ifs env) (λok s₃=>
      if ok=true then wpAny (model prog w) A (eval elt env) (λx s₄=>
       wpAny (model prog w) A (call (.builtin "set.add") [acc,x]) (λ_ s₅=>∃ m,m<n/\I m s₅) (λ_ _=>False) s₄) (λ_ _=>False) s₃
      else ∃ m,m<n/\I m s₃) (λ_ _=>False) s₂) (λ_ _=>False) s₀) (λ_ _=>False) s₁) (λ_ _=>False) s)
  (n:Nat) (h:I n s):
  codeAny (model prog w) A (.compLoop (.SetComp elt [⟨target,iter,ifs,0⟩] scope pos) 0 it acc env) R s:=by
 refine codeAny_loop rfl I (λn s hI=>?_) n h
 show wpAny _ A ((compTurn (.SetComp elt [⟨target,iter,ifs,0⟩] scope pos) 0 it acc env).onRaise (λx=>do noteFrame x env;theTreesLotGoes x)) _ _ s
 refine wpAny_noted ?_
 rw[zx]
 refine ae (cn (ae (aR (turn n s hI) (λr s₁ h₁=>?_) λ_ _ h'=>h'.elim)))
 cases r with
 |none=>exact ao h₁
 |some v=>
  refine ae (aR h₁ (λ_ s₀ h₀=>?_) λ_ _ h'=>h'.elim)
  refine ae (aR h₀ (λ_ s₂ h₂=>ae (aR h₂ (λok s₃ h₃=>?_) λ_ _ h'=>h'.elim)) λ_ _ h'=>h'.elim)
  cases ok with
  |false=>exact ao ⟨rfl,h₃⟩
  |true=>
   exact ae (ae (aR h₃ (λx s₄ h₄=>ae (cn (ae (aR h₄ (λ_ s₅ h₅=>ao (ao ⟨rfl,h₅⟩)) λ_ _ h'=>h'.elim)))) λ_ _ h'=>h'.elim))
theorem xn {elt target iter ifs rest scope pos it acc env}
  (h0:codeAny (model prog w) A (.compLoop (.SetComp elt (⟨target,iter,ifs,0⟩::rest) scope pos) 0 it acc env) R s)
  (h:wpAny (model prog w) A (pyIter it) (λit' s'=>codeAny (model prog w) A (.compLoop (.SetComp elt (⟨target,iter,ifs,0⟩::rest) scope pos) 0 it' acc env) R s')
   (notedBy (model prog w) A env λx s'=>R (.error x) s') s):
  codeAny (model prog w) A (.compStart (.SetComp elt (⟨target,iter,ifs,0⟩::rest) scope pos) 0 it acc env) R s:=by
 refine codeAny_of_tree ?_
 show wpAny _ _ ((compStart (.SetComp elt (⟨target,iter,ifs,0⟩::rest) scope pos) 0 it acc env).onRaise (λx=>do noteFrame x env;standAt theWindowsPlace)) _ _ s
 refine wpAny_notedAt ?_
 unfold compStart
 show wpAny _ _ (ask >>= _) _ _ s
 refine ae (wpAny_askSetting (wpAny_ite ?_))
 split
 ·first
   |exact ae (ao (ao (And.intro rfl h0)))
   |exact ao (And.intro rfl h0)
 ·first
   |exact ae (wpAny_rule (ae (cn (ae (aR h (λit' s' h'=>ao (And.intro rfl h')) λ_ _ x=>x)))))
   |(refine ae (wpAny_rule ?_);show wpAny _ _ (standAt iter.pos >>= _) _ _ s;exact ae (cn (ae (aR h (λit' s' h'=>ao (And.intro rfl h')) λ_ _ x=>x))))
end
open PyProof.Rows
noncomputable def oth (e:Int):Int:=e+1-2*(e%2)
theorem GI (x:Int):Builtin.bitXor x 1=oth x:=by
 rw[bitXor_and,bitAnd_m1];unfold oth;omega
theorem Cq (e:Int):oth (oth e)=e:=by unfold oth;omega
theorem FE (e:Int):oth e/2=e/2:=by unfold oth;omega
end TL
set_option maxHeartbeats 4000000
namespace TL
open PySem PySem.Spec PyProof.Rows L2
noncomputable abbrev St:=L2.St
noncomputable def gE (X:Cx)(scope:Scope)(cl:List (Str×Addr))(N:List Str)(fp:List Addr)(s3:Shared)(H3:Hp):Cx where
 prog:=X.prog
 w:=X.w
 K:=X.K
 mg:=X.mg
 base:=X.base
 A:=X.A
 N:=N
 s₀:=s3
 H₀:=H3
 env:=compEnvC scope cl s3.heap.objs.size X.env
 outer:=X.stack
 stack:=X.stack
 ex:=fp
 fn:=λ_=>false
 calm:=X.calm
 pn:=[]
 xe:=λ_ _=>False
noncomputable def Io (NX:List Str)(scope:Scope)(N:List Str)(cap:List (Option Nat)):Bool:=
 (N.zip cap).all λp=>match p.2 with
  |none=>true
  |some j=>decide (NX[j]? = some p.1)&&decide (scope.names.lookup p.1=some .free)
structure gp (scX:Scope)(NX:List Str)(scope:Scope)(N:List Str)(own:Nat)(cap:List (Option Nat)):Prop where
 kind:scope.kind = .function
 ze:∀ y∈scope.names,y.2≠ .cell
 loc:∀ y∈scope.names,y.2 = .local->scope.names.lookup y.1=some .local
 fre:∀ y∈scope.names,y.2 = .free->scX.names.lookup y.1=some .cell\/scX.names.lookup y.1=some .free
 len:cap.length=N.length
 V4:Io NX scope N cap=true
 N8:(cap.take own).all (·.isNone)=true
 nd:N.Nodup
noncomputable def ju (cap:List (Option Nat))(σ:St):St:=cap.map λo=>o.bind λj=>(σ[j]?).bind id
variable {cap:List (Option Nat)}
theorem Es {σ:St} :(ju cap σ).length=cap.length:=by simp[ju]
theorem qM {σ:St}{i:Nat}{v:V}(h:(ju cap σ)[i]? = some (some v)):∃ j,cap[i]? = some (some j)/\σ[j]? = some (some v):=by
 unfold ju at h
 rw[ah]at h
 cases e:cap[i]? with
 |none=>rw[e]at h;cases h
 |some o=>
  rw[e]at h
  cases o with
  |none=>cases h
  |some j=>
   refine⟨j,rfl,?_⟩
   have h':(σ[j]?).bind id=some v:=by simpa using h
   cases q:σ[j]? with
   |none=>rw[q]at h';cases h'
   |some z=>rw[q]at h';exact bF some h'
theorem gp.at {scX:Scope}{NX:List Str}{scope:Scope}{N:List Str}{own:Nat}{cap:List (Option Nat)}(C:gp scX NX scope N own cap){i j:Nat}{x:Str}(h1:N[i]? = some x)(h2:cap[i]? = some (some j)):
  NX[j]? = some x/\scope.names.lookup x=some .free:=by
 have h:=C.V4
 unfold Io at h
 have hm:(x,some j)∈N.zip cap:=by
  refine cK.mpr ⟨i,?_⟩
  rw[ek]
  exact⟨h1,h2⟩
 have:=bY.mp h _ hm
 simpa using this
theorem gp.vD {scX:Scope}{NX:List Str}{scope:Scope}{N:List Str}{own:Nat}(C:gp scX NX scope N own cap){i j:Nat}(hi:i<own)(h:cap[i]? = some (some j)):False:=by
 have hm:some j∈cap.take own:=by
  refine cK.mpr ⟨i,?_⟩
  rw[cA hi]
  exact h
 have:=bY.mp C.N8 _ hm
 cases this
section
variable {X:Cx}{pins:List (Addr×Obj)}{σ:St}{H H3:Hp}{s s3:Shared}{scope:Scope}{N:List Str}{own:Nat}{cap:List (Option Nat)}{cl:List (Str×Addr)}{fp:List Addr}
theorem vW (I3:Inv X pins σ H3 s3)(C:gp X.env.scope X.N scope N own cap)(mT:∀ x c,cl.lookup x=some c->X.env.cells.lookup x=some c)(qQ:∀ y∈scope.names,y.2 = .free->∃ c,cl.lookup y.1=some c)
  (hf:∀ b∈fp,nU X pins H3 b/\b<s3.heap.objs.size) {h4:Heap}{tk:Nat}{m4:Str->Option Value} (hn:h4.Ns s3.heap.objs.size m4) (hk:∀ b u,s3.heap.get? b=some u->h4.get? b=some u):
  Inv (gE X scope cl N fp s3 H3) [] (ju cap σ) H3 {s3 with heap:=h4,toks:=tk} :=by
 refine⟨⟨I3.ok.mod,C.kind,I3.ok.glob,I3.ok.blt,aw _,λx y c e1 e2=>I3.ok.inj x y c (mT _ _ e1) (mT _ _ e2),λx hx=>?_,λx c h=>?_,I3.ok.hd,I3.ok.frames,.inl rfl,λb hb=>?_,
  I3.bs,aT I3.ok.bsz I3.sz,λb o e hb=>?_,λb hb hz=>?_,I3.stack,I3.yu⟩,rfl,I3.bare,Un.kept hk,⟨m4,hn,λi x v e1 e2 e3=>?_⟩,λx c e=>?_,I3.hok.fresh (aw _),λx c e=>I3.lJ x c (mT x c e),
  λp hp=>absurd (show p∈([]:List (Addr×Obj)) from hp) (by simp),I3.hok.kept hk,?_⟩
 ·obtain⟨y,hy,e,f⟩:=lH (env:=X.env) C.ze hx
  obtain⟨c,q⟩:=qQ y hy f
  exact⟨c,by rw[<-e];exact q⟩
 ·exact absurd (show false=true from h) ax
 ·obtain⟨⟨f0,f1,f2,f3,f4,f5⟩,hlt⟩:=hf b hb
  exact⟨aD hlt,λx c e=>f4 x c (mT x c e)⟩
 ·obtain⟨⟨f0,f1,f2,f3,f4,f5⟩,hlt⟩:=hf b hb
  rcases f3 with z |z
  ·exact I3.ok.BA b o e z
  ·exact absurd (aP (ar e) (aT I3.ok.bsz z)) (cz _)
 ·obtain⟨⟨f0,f1,f2,f3,f4,f5⟩,hlt⟩:=hf b hb
  rcases ay.mp (I3.oH b hz)with z |z
  ·exact f1 z
  ·exact f2 z
 ·obtain⟨j,c1,c2⟩:=qM e2
  obtain⟨d1,d2⟩:=C.at e1 c1
  have hk2:=C.fre (x,.free) (cg d2) rfl
  obtain⟨mX,hnX,hl⟩:=I3.loc
  obtain⟨u,r,l⟩:=hl j x v d1 c2 (.inr hk2)
  refine⟨u,r,?_⟩
  rcases l with⟨k,_⟩|⟨k,c,e,z⟩
  ·exfalso
   have k':X.env.scope.names.lookup x=some .local:=k
   rcases hk2 with q |q
   ·rw[k']at q;cases q
   ·rw[k']at q;cases q
  ·obtain⟨c',q⟩:=qQ (x,.free) (cg d2) rfl
   have e':=mT x c' q
   rw[e]at e'
   cases e'
   obtain⟨o,ho,hd⟩:=z
   exact .inr ⟨lY (env:=X.env) d2,c,q,o,hk _ _ ho,hd⟩
 ·obtain⟨v,o,ho,hd⟩:=I3.cell x c (mT x c e)
  exact⟨v,o,hk _ _ ho,hd⟩
 ·rw[Es];exact C.len
theorem comp_back {tW:List (Addr×Obj)}{σ':St}{H':Hp}{s':Shared}(I3:Inv X pins σ H3 s3)(hf:∀ b∈fp,nU X pins H3 b)(I':Inv (gE X scope cl N fp s3 H3) tW σ' H' s'):Inv X pins σ H' s':=
 I3.GF (ch:=fp) I'.os I'.base I'.hok I'.bare λb hb=>by
  obtain⟨f0,f1,f2,f3,f4,f5⟩:=hf b hb
  exact⟨f3,f1,f4,f5⟩
structure Apart (X:Cx)(pins:List (Addr×Obj))(C:Addr):Prop where
 loc:C≠X.env.locals
 new:X.s₀.heap.objs.size<=C
 cel:∀ x c,X.env.cells.lookup x=some c->c≠C
 pin:∀ p∈X.pn++pins,p.1≠C
theorem Inv.apart (I3:Inv X pins σ H3 s3):Apart X pins s3.heap.objs.size:=
 ⟨Nat.ne_of_gt I3.lt,I3.sz,λx c e=>by obtain⟨v,o,ho,_⟩:=I3.cell x c e;exact aD (ar ho),λp hp=>aD (ar (I3.pin p hp).1)⟩
theorem ou {C:Addr}{h':Heap}(I:Inv X pins σ H s)(P:Apart X pins C)(hn:H C=none)(hs:Heap.SameBut C s.heap h'):Inv X pins σ H {s with heap:=h'} :=
 I.turned (t':=s.toks) (λb o hb e=>(hs.2 b hb).trans e) hn P.loc (.inr P.new) P.cel P.pin
end
structure uE (own:Nat)(g:TG):Prop where
 mono:∀ v σ H Q Q',(∀ σ' H',Q σ' H'->Q' σ' H')->g v σ H Q->g v σ H Q'
 own:∀ v σ H Q,g v σ H Q->g v σ H λσ' H'=>Q σ' H'/\σ'.length=σ.length/\∀ i,own<=i->σ'[i]? = σ[i]?
structure yp (own:Nat)(g:TGs):Prop where
 mono:∀ v σ H Q Q',(∀ σ' H',Q σ' H'->Q' σ' H')->g v σ H Q->g v σ H Q'
 own:∀ v σ H Q,g v σ H Q->g v σ H λσ' H'=>Q σ' H'/\σ'.length=σ.length/\∀ i,own<=i->σ'[i]? = σ[i]?
theorem uE.name {own i:Nat}(h:i<own):uE own (lI i):=
 ⟨λv σ H Q Q' f q=>f _ _ q,λv σ H Q q=>⟨q,List.length_set,λj hj=>dA (by omega)⟩⟩
theorem yp.nil {own:Nat} :yp own JE:=⟨λv σ H Q Q' f q=>⟨q.1,f _ _ q.2⟩,λv σ H Q q=>⟨q.1,q.2,rfl,λ_ _=>rfl⟩⟩
theorem yp.cons {own:Nat}{t:TG}{u:TGs}(h1:uE own t)(h2:yp own u):yp own (AU t u) where
 mono:=λv σ H Q Q' f ⟨x,r,e,q⟩=>⟨x,r,e,h1.mono _ _ _ _ _ (λσ' H' q=>h2.mono _ _ _ _ _ f q) q⟩
 own:=λv σ H Q ⟨x,r,e,q⟩=>⟨x,r,e,h1.mono _ _ _ _ _ (λσ1 H1 ⟨q,l1,o1⟩=>h2.mono _ _ _ _ _ (λσ2 H2 ⟨q,l2,o2⟩=>⟨q,l2.trans l1,λi hi=>(o2 i hi).trans (o1 i hi)⟩) (h2.own _ _ _ _ q)) (h1.own _ _ _ _ q)⟩
theorem uE.tup {own n:Nat}{K:PySem.W.Frag}{t:TGs}(h:yp own t):uE own (JC K n t) where
 mono:=λv σ H Q Q' f ⟨a,xs,e,q1,q2,q⟩=>⟨a,xs,e,q1,q2,h.mono _ _ _ _ _ f q⟩
 own:=λv σ H Q ⟨a,xs,e,q1,q2,q⟩=>⟨a,xs,e,q1,q2,h.own _ _ _ _ q⟩
noncomputable def zB (X:Cx)(ifs:List Expr)(t:TT):Prop:=
 ∀ (pins:List (Addr×Obj)) (s:Shared) (σ:St) (H:Hp) (Q:Bool->Hp->Prop),Inv X pins σ H s->t σ H Q->wpAny (model X.prog X.w) X.A (uF ifs X.env) (TP X pins σ Q) X.xe s
noncomputable def ER:TT:=λ_ H Q=>Q true H
theorem gU {X:Cx} :zB X [] ER:=λ_ _ _ H _ I h=>wpAny_tests_nil ⟨H,I,h⟩
theorem mM {X:Cx}{c:Expr}{t:TT}(h:PT X c t):zB X [c] t:=λpins s σ H Q I q=>wpAny_tests_one (h pins s σ H Q I q)
noncomputable def LcW (J:It)(g:TG)(tt:TT)(te:TE)(cap:List (Option Nat))(σ:St)(Q:VK)(l:Addr)(H1:Hp):Prop:=
 ∃ W:Nat->Nat->List V->Hp->Prop,(∃ m,W 0 m [] (upd H1 l (.lst [])))/\∀ i m acc H,W i m acc H->
  (J.stop i H/\Q (.ref l) H)\/(J.go i H/\∃ N:List V->Hp->Prop,(∀ xp H',N xp H'->∃ m',m'<m/\W (i+1) m' xp H')/\
   ∀ x H',J.yld i H x H'->g x (ju cap σ) H' λσ2 H2=>tt σ2 H2 λb H3=>
    if b=true then te σ2 H3 λy H4=>H4 l=some (.lst acc)/\acc.length<sizeLine/\N (acc ++ [y]) (upd H4 l (.lst (acc ++ [y])))
    else N acc H3)
noncomputable def tLC (wi:TI)(cap:List (Option Nat))(g:TG)(tt:TT)(te:TE):TE:=λσ H Q=>wi σ H λJ H1=>∀ l,H1 l=none->
 LcW J g tt te cap σ Q l H1
section
variable {X:Cx}{pins:List (Addr×Obj)}{σ:St}{H1:Hp}{s2:Shared}{scope:Scope}{N:List Str}{own:Nat}{cap:List (Option Nat)}{cl:List (Str×Addr)}{fp:List Addr}
 {tg iter elt:Expr}{ifs:List Expr}{pos:Pos}{g:TG}{tt:TT}{te:TE}{wi:TI}
theorem A3 {it:Addr}{tn:Nat->Heap->Prop}{J:It}{Q:VK}{RR:Value->Addr->Result->Shared->Prop}{E:Value->Shared->Prop}(I:Inv X pins σ H1 s2)(T:Turn X.prog X.w X.K tg J fp it tn)(t0:tn 0 s2.heap)
  (f:∀ b∈fp,nU X pins H1 b) (hc:X.calm=true) (C:gp X.env.scope X.N scope N own cap) (ho:uE own g)
  (mT:∀ x c,cl.lookup x=some c->X.env.cells.lookup x=some c) (qQ:∀ y∈scope.names,y.2 = .free->∃ c,cl.lookup y.1=some c)
  (hg:∀ s3 H3,PG (gE X scope cl N fp s3 H3) tg g) (ht:∀ s3 H3,zB (gE X scope cl N fp s3 H3) ifs tt) (he:∀ s3 H3,PE (gE X scope cl N fp s3 H3) elt te)
  (hw:∀ l,H1 l=none->LcW J g tt te cap σ Q l H1)
  (fin:∀ l C s' H' m',Inv X pins σ H' s'->s'.heap.Ns C m'->H' C=none->Apart X pins C->Q (.ref l) H'->RR (.ref l) C (.ok .next) s'):
  wpAny (model X.prog X.w) X.A (newList []) (λacc s₃=>wpAny (model X.prog X.w) X.A (newFunctionEnv scope X.env.globals cl [] X.env.qual none .none (some X.env)) (λcenv s₄=>
   codeAny (model X.prog X.w) X.A (.compStart (.ListComp elt [⟨tg,iter,ifs,0⟩] scope pos) 0 (.ref it) acc {cenv with scope:=relabel scope X.env}) (RR acc cenv.locals) s₄) E s₃) E s2:=by
 refine wpAny_newObj_type (wpAny_newFunctionEnv C.ze (by intro y hy;simp at hy) (λh₁ mS mR=>?_) C.kind)
 dsimp only at mS mR ⊢
 obtain⟨W,⟨m0,w0⟩,turn⟩:=hw s2.heap.objs.size I.fresh
 have I3:Inv X pins σ (upd H1 s2.heap.objs.size (.lst [])) {s2 with heap:=s2.heap.push {cls:=.type "list",dict:=none,data:=.seq ([]:List Value).toArray}} :=I.Hk (ys:=[]) (its:=[]) (t':=s2.toks) .nil (aV _)
 generalize hs3:({s2 with heap:=s2.heap.push {cls:=.type "list",dict:=none,data:=.seq ([]:List Value).toArray}} :Shared)=s3 at I3
 have hh3:s3.heap=s2.heap.push {cls:=.type "list",dict:=none,data:=.seq ([]:List Value).toArray} :=by rw[<-hs3]
 rw[<-hh3]at mS mR ⊢
 have e4:({s2 with heap:=h₁,toks:=s2.toks+([]:List (Str×Value)).length} :Shared) = {s3 with heap:=h₁,toks:=s2.toks} :=by rw[<-hs3];rfl
 rw[e4]
 have k4:∀ b u,s3.heap.get? b=some u->h₁.get? b=some u:=λb u e=>mR.extBut b u (aD (ar e)) (aj _ e)
 have k3:∀ b u,s2.heap.get? b=some u->s3.heap.get? b=some u:=λb u e=>by rw[hh3];exact aj _ e
 have hb2:∀ b∈fp,b<s2.heap.objs.size:=λb hb=>by obtain⟨o,e,_⟩:=T.obj _ _ t0 b hb;exact ar e
 have f3:∀ b∈fp,nU X pins (upd H1 s2.heap.objs.size (.lst [])) b:=λb hb=>by
  obtain⟨f0,fr⟩:=f b hb
  exact⟨by rw[fw (aD (hb2 b hb))];exact f0,fr⟩
 have hb3:∀ b∈fp,b<s3.heap.objs.size:=λb hb=>by obtain⟨o,e,_⟩:=T.obj _ _ t0 b hb;exact ar (k3 b o e)
 have I4:=vW (tk:=s2.toks) I3 C mT qQ (λb hb=>⟨f3 b hb,hb3 b hb⟩) mS k4
 generalize hH3:upd H1 s2.heap.objs.size (.lst [])=H3 at *
 have st4:tn 0 h₁:=T.keep _ _ _ t0 λb hb o e=>k4 b o (k3 b o e)
 have fpX:∀ {H':Hp},(∀ b∈fp,H' b=none)->∀ b∈fp,nU (gE X scope cl N fp s3 H3) [] H' b:=λ{H'} hn b hb=>by
  obtain⟨f0,f1,f2,f3',f4,f5⟩:=f3 b hb
  refine⟨hn b hb,aD (hb3 b hb),λhz=>?_,.inl hb,λx c e=>f4 x c (mT x c e),λp hp=>absurd (show p∈([]:List (Addr×Obj)) from hp) (by simp)⟩
  rcases ay.mp (I3.oH b hz)with z |z
  ·exact f1 z
  ·exact f2 z
 have loop:codeAny (model X.prog X.w) X.A (.compLoop (.ListComp elt [⟨tg,iter,ifs,0⟩] scope pos) 0 (.ref it) (.ref s2.heap.objs.size) (compEnvC scope cl s3.heap.objs.size X.env)) (RR (.ref s2.heap.objs.size) s3.heap.objs.size) {s3 with heap:=h₁,toks:=s2.toks} :=by
  refine A4 (λn s'=>∃ i acc H',Inv (gE X scope cl N fp s3 H3) [] (ju cap σ) H' s'/\tn i s'.heap/\(∀ b∈fp,H' b=none)/\W i n acc H') ?_ m0 ⟨0,[],H3,I4,st4,λb hb=>(f3 b hb).1,w0⟩
  rintro n s' ⟨i,acc,H',I',st,fr,w⟩
  rcases turn i n acc H' w with⟨stop,q⟩|⟨go,NN,hNN,step⟩
  ·refine thn (T.done (gE X scope cl N fp s3 H3) rfl rfl rfl hc i [] s' _ H' (λ_ _=>False) I' (fpX fr) st stop) λr s5 ⟨hr,I5⟩=>?_
   subst hr
   obtain⟨m5,hn5,_⟩:=id I5.loc
   exact fin _ _ s5 H' m5 (comp_back I3 f3 I5) hn5 I5.free (TL.Inv.apart I3) q
  ·refine thn (T.item (gE X scope cl N fp s3 H3) rfl rfl rfl hc i [] s' _ H' (λ_ _=>False) I' (fpX fr) st go) λr s5 ⟨u,hr,h5⟩=>?_
   subst hr
   refine thn h5 λ_ s6 ⟨x,H6,I6,r6,y6,st6,fr6⟩=>?_
   have I6':=I6.pinned (fpX fr6) (T.obj _ _ st6)
   refine thn (hg s3 H3 _ s6 _ H6 x u _ I6' r6 (ho.own _ _ _ _ (step x H6 y6))) λ_ s7 ⟨σ7,H7,I7,q7,l7,o7⟩=>?_
   have cov:∀ (i:Nat) v,(ju cap σ)[i]? = some (some v)->σ7[i]? = some (some v):=λi v e=>by
    obtain⟨j,c1,c2⟩:=qM e
    by_cases hi:i<own
    ·exact(C.vD hi c1).elim
    ·rw[o7 i (by omega)];exact e
   have back:∀ {H8:Hp}{s8:Shared},Inv (gE X scope cl N fp s3 H3) ([]++rm fp s6.heap) σ7 H8 s8->Inv (gE X scope cl N fp s3 H3) [] (ju cap σ) H8 s8/\tn (i+1) s8.heap/\∀ b∈fp,H8 b=none:=λ{H8 s8} I8=>by
    refine⟨(Inv.nW (pins:=[]) I8).weak l7.symm cov,T.keep _ _ _ st6 λb hb o e=>(I8.pin (b,o) (aF _ (aF _ (jC hb e)))).1,λb hb=>?_⟩
    obtain⟨o,e,d⟩:=T.obj _ _ st6 b hb
    exact(I8.pin (b,o) (aF _ (aF _ (jC hb e)))).2.1
   refine thn (ht s3 H3 _ s7 σ7 H7 _ I7 q7) λb s8 ⟨H8,I8,q8⟩=>?_
   cases b with
   |false=>
    rw[ak ax]at q8 ⊢
    obtain⟨m',hm,w8⟩:=hNN _ _ q8
    obtain⟨J1,J2,J3⟩:=back I8
    exact⟨m',hm,i+1,acc,H8,J1,J2,J3,w8⟩
   |true=>
    rw[av rfl]at q8 ⊢
    refine thn (he s3 H3 _ s8 σ7 H8 _ I8 q8) λv s9 ⟨y,H9,I9,r9,ha,hz,n9⟩=>?_
    obtain⟨m',hm,w9⟩:=hNN _ _ n9
    refine thn (ko _ s9 σ7 H9 (.ref s2.heap.objs.size) [y] (.ref s2.heap.objs.size) [v] (λ_ H10=>W (i+1) m' (acc ++ [y]) H10) I9 rfl (.cons r9 .nil) ⟨_,acc,y,rfl,rfl,ha,hz,w9⟩) λ_ s10 ⟨_,H10,I10,_,w10⟩=>?_
    obtain⟨J1,J2,J3⟩:=back I10
    exact⟨m',hm,i+1,acc ++ [y],H10,J1,J2,J3,w10⟩
 exact codeAny_compStart_list loop (T.self X.A 0 _ _ _ st4 loop)
theorem og (hi:PI X tg iter wi)(hc:X.calm=true)(C:gp X.env.scope X.N scope N own cap)(ho:uE own g)
  (hg:∀ cl fp s3 H3,PG (gE X scope cl N fp s3 H3) tg g) (ht:∀ cl fp s3 H3,zB (gE X scope cl N fp s3 H3) ifs tt) (he:∀ cl fp s3 H3,PE (gE X scope cl N fp s3 H3) elt te)
  (hs:∀ x,foldedSetIterable iter X.env x=pure x:=by intro _;rfl):PE X (.ListComp elt [⟨tg,iter,ifs,0⟩] scope pos) (tLC wi cap g tt te):=by
 intro pins s σ H Q I h
 obtain⟨cl,ecl,mT,qQ⟩:=pf (scope:=scope) (env:=X.env) λy hy hf=>I.ok.has y.1 (C.fre y hy hf)
 rw[eval_ListComp]
 refine wpAny_comprehension_free (use:=none) rfl hs ecl C.kind C.loc (thn (hi pins s σ H _ I h) λxv s1 h1=>thn h1 λitv s2 h2=>?_)
 obtain⟨it,fp,tn,J,H2,e,I2,T,st2,f2,hw⟩:=h2
 subst e
 refine A3 (RR:=λacc C=>compPost (model X.prog X.w) X.A X.xe none (EP X pins σ Q) acc C) I2 T st2 f2 hc C ho mT qQ (hg cl fp) (ht cl fp) (he cl fp) hw λl Ca s' H' m' I' hn nk hP q=>?_
 exact⟨m',hn,λh'' BO=>⟨.ref l,H',ou I' hP nk BO,rfl,q⟩⟩
theorem vq {i:Nat}{x:Str}{pos' Kl:Pos}(hN:X.N.Nodup)(hi':X.N[i]? = some x)(hx:X.env.scope.names.lookup x=some .local)(hi:PI X tg iter wi)(hc:X.calm=true)(C:gp X.env.scope X.N scope N own cap)(ho:uE own g)
  (hg:∀ cl fp s3 H3,PG (gE X scope cl N fp s3 H3) tg g) (ht:∀ cl fp s3 H3,zB (gE X scope cl N fp s3 H3) ifs tt) (he:∀ cl fp s3 H3,PE (gE X scope cl N fp s3 H3) elt te)
  (hsw:swapsWith (.ListComp elt [⟨tg,iter,ifs,0⟩] scope pos) (some (.Name x pos')) Kl.line X.env=pure true:=by rfl)
  (hs:∀ x,foldedSetIterable iter X.env x=pure x:=by intro _;rfl):PS X (.Assign [.Name x pos'] (.ListComp elt [⟨tg,iter,ifs,0⟩] scope pos) Kl) (IF (tLC wi cap g tt te) (lI i)):=by
 intro pins s σ H D I h
 obtain⟨cl,ecl,mT,qQ⟩:=pf (scope:=scope) (env:=X.env) λy hy hf=>I.ok.has y.1 (C.fre y hy hf)
 rw[exec_Assign_Name_used _ _ _ _ hsw]
 refine ae (cn (ae ?_))
 show wpAny _ X.A (do let _ <-comprehension (.ListComp elt [⟨tg,iter,ifs,0⟩] scope pos) scope X.env _ (newList []) false (eval iter X.env) (some (assign (.Name x pos') X.env))) _ _ s
 refine ae (aR (wpAny_comprehension_free (use:=some (assign (.Name x pos') X.env)) (Q:=λ_ s'=>SP X pins D .next s') rfl hs ecl C.kind C.loc
  (thn (hi pins s σ H _ I h) λxv s1 h1=>thn h1 λitv s2 h2=>?_)) (λ_ s' hq=>ao (ao hq)) λ_ _ e=>e)
 obtain⟨it,fp,tn,J,H2,e,I2,T,st2,f2,hw⟩:=h2
 subst e
 refine A3 (RR:=λacc C=>compPost (model X.prog X.w) X.A X.xe (some (assign (.Name x pos') X.env)) (λ_ s'=>SP X pins D .next s') acc C) I2 T st2 f2 hc C ho mT qQ (hg cl fp) (ht cl fp) (he cl fp) hw λl Ca s' H' m' I' hn nk hP q=>?_
 show wpAny _ X.A (assign (.Name x pos') X.env (.ref l)) _ _ _
 refine wpAny_assign_Name (xE I' hN hi' (.inl hx) (v:=.ref l) rfl (λs5 I5 ⟨a,sb,ha⟩=>?_) (.inr hx))
 have hne:Ca≠a:=by
  rcases ha with z |z
  ·rw[z];exact hP.loc
  ·exact λe=>hP.cel x a z e.symm
 refine⟨m',hn.sameBut sb hne,λh'' BO=>⟨_,H',ou I5 hP nk BO,q⟩⟩
end
section
variable {K:PySem.W.Frag}{a l:Addr}{xs:List V}{g:TG}{tt:TT}{te:TE}{cap:List (Option Nat)}{σ:St}{Q:VK}{H1:Hp}
theorem Hm (Pv:Nat->List V->Hp->Prop)(h0:Pv 0 [] (upd H1 l (.lst [])))(hl:∀ i acc H,i<=xs.length->Pv i acc H->SqL K H a xs)
  (hs:∀ i x acc H,xs[i]? = some x->Pv i acc H->g x (ju cap σ) H λσ2 H2=>tt σ2 H2 λb H3=>
    if b=true then te σ2 H3 λy H4=>H4 l=some (.lst acc)/\acc.length<sizeLine/\Pv (i+1) (acc ++ [y]) (upd H4 l (.lst (acc ++ [y])))
    else Pv (i+1) acc H3) (hd:∀ acc H,Pv xs.length acc H->Q (.ref l) H):LcW (Itl K a) g tt te cap σ Q l H1:=by
 refine⟨λi m acc H=>m=xs.length-i/\i<=xs.length/\Pv i acc H,⟨xs.length,by simp,aV _,h0⟩,?_⟩
 rintro i m acc H ⟨rfl,hi,p⟩
 have q:=hl i acc H hi p
 by_cases hlt:i<xs.length
 ·refine .inr ⟨⟨xs,xs[i],q,by simp[hlt]⟩,Pv (i+1),λxp H' p'=>⟨xs.length-(i+1),by omega,rfl,hlt,p'⟩,λx H' y=>?_⟩
  obtain⟨e,y⟩:=y
  subst e
  exact hs i x acc _ (y xs q) p
 ·have e:i=xs.length:=by omega
  subst e
  exact .inl ⟨⟨xs,q,aw _⟩,hd acc H p⟩
theorem eN {H:Hp}{l:Addr}{o:HO}(hn:H l=none):eW H (upd H l o):=λb u e=>by rw[fw (ft e hn)];exact e
theorem nj {α:Type}(ds:List α)(p:α->Bool)(f:α->V)(hn:H1 l=none)(hx:SqL K H1 a xs)(hlen:xs.length=ds.length)(hz:xs.length<sizeLine)
  (hs:∀ (i:Nat) x d H,xs[i]? = some x->ds[i]? = some d->eW H1 H->∀ (P1:VK) (P0:Hp->Prop),(p d=true->P1 (f d) H)->(p d=false->P0 H)->
   g x (ju cap σ) H λσ2 H2=>tt σ2 H2 λb H3=>if b=true then te σ2 H3 P1 else P0 H3)
  (hq:Q (.ref l) (upd H1 l (.lst ((ds.filter p).map f)))):LcW (Itl K a) g tt te cap σ Q l H1:=by
 refine Hm (λi acc H=>acc=((ds.take i).filter p).map f/\H=upd H1 l (.lst acc)) ⟨rfl,rfl⟩ (λi acc H _ ⟨_,e⟩=>by rw[e];exact(eN hn).seq hx) ?_ ?_
 ·rintro i x acc H hi ⟨e1,e2⟩
  have hlt:i<xs.length:=(af.mp hi).1
  have hd:ds[i]? = some (ds[i]'(by omega)):=by simp
  generalize ds[i]'(by omega)=d at hd
  have step:((ds.take (i+1)).filter p).map f=acc++(if p d=true then[f d]else[]):=by
   rw[take_succ_filter p ds i d hd,aC,e1]
   cases p d<;>rfl
  refine hs i x d H hi hd (by rw[e2];exact eN hn) _ _ (λhp=>?_) (λhp=>?_)
  ·refine⟨by rw[e2,eO],?_,?_,?_⟩
   ·have h1:acc.length<=i:=by
     rw[e1,aa]
     exact aT (bD _ _) (by rw[aI];omega)
    omega
   ·rw[step,hp];rfl
   ·rw[e2,qC]
  ·refine⟨?_,e2⟩
   rw[step,hp,ak ax,bS]
 ·rintro acc H ⟨e1,e2⟩
  rw[hlen,bo]at e1
  rw[e2,e1]
  exact hq
end
mutual
noncomputable def Dg (L T:Addr->List V->Prop):PyData->V->Prop
 |.none,v=>v = .non
 |.bool b,v=>v = .bl b
 |.int i,v=>v = .int i
 |.str x,v=>v = .str x
 |.list ds,v=>∃ a vs,v = .ref a/\L a vs/\Dgs L T ds vs
 |.tuple ds,v=>∃ a vs,v = .ref a/\T a vs/\Dgs L T ds vs
 |.dict _,_=>False
noncomputable def Dgs (L T:Addr->List V->Prop):List PyData->List V->Prop
 |[],vs=>vs = []
 |d::ds,vs=>∃ v r,vs=v::r/\Dg L T d v/\Dgs L T ds r
end
mutual
theorem Dg.mono {L T L' T':Addr->List V->Prop}(hL:∀ a vs,L a vs->L' a vs)(hT:∀ a vs,T a vs->T' a vs):∀ {d:PyData}{v:V},Dg L T d v->Dg L' T' d v
 |.none,_,h=>by simpa only[Dg]using h
 |.bool _,_,h=>by simpa only[Dg]using h
 |.int _,_,h=>by simpa only[Dg]using h
 |.str _,_,h=>by simpa only[Dg]using h
 |.list ds,_,h=>by
  simp only[Dg]at h ⊢
  obtain⟨a,vs,e,l,q⟩:=h
  exact⟨a,vs,e,hL a vs l,Dgs.mono hL hT q⟩
 |.tuple ds,_,h=>by
  simp only[Dg]at h ⊢
  obtain⟨a,vs,e,l,q⟩:=h
  exact⟨a,vs,e,hT a vs l,Dgs.mono hL hT q⟩
 |.dict _,_,h=>by simp only[Dg]at h
theorem Dgs.mono {L T L' T':Addr->List V->Prop}(hL:∀ a vs,L a vs->L' a vs)(hT:∀ a vs,T a vs->T' a vs):∀ {ds:List PyData}{vs:List V},Dgs L T ds vs->Dgs L' T' ds vs
 |[],_,h=>by simpa only[Dgs]using h
 |d::ds,_,h=>by
  simp only[Dgs]at h ⊢
  obtain⟨v,r,e,l,q⟩:=h
  exact⟨v,r,e,Dg.mono hL hT l,Dgs.mono hL hT q⟩
end
section
variable {L T:Addr->List V->Prop}
theorem gj {i:Int}{v:V} :Dg L T (.int i) v↔v = .int i:=by simp only[Dg]
theorem nN {i:Str}{v:V} :Dg L T (.str i) v↔v = .str i:=by simp only[Dg]
theorem iY {ds:List PyData}{v:V} :Dg L T (.list ds) v↔∃ a vs,v = .ref a/\L a vs/\Dgs L T ds vs:=by simp only[Dg]
theorem gd {ds:List PyData}{v:V} :Dg L T (.tuple ds) v↔∃ a vs,v = .ref a/\T a vs/\Dgs L T ds vs:=by simp only[Dg]
theorem gA {vs:List V} :Dgs L T [] vs↔vs = []:=by simp only[Dgs]
theorem fO {d:PyData}{ds:List PyData}{vs:List V} :Dgs L T (d::ds) vs↔∃ v r,vs=v::r/\Dg L T d v/\Dgs L T ds r:=by simp only[Dgs]
theorem Dgs.length:∀ {ds:List PyData}{vs:List V},Dgs L T ds vs->vs.length=ds.length
 |[],_,h=>by rw[gA.mp h];rfl
 |d::ds,_,h=>by
  obtain⟨v,r,rfl,_,q⟩:=fO.mp h
  rw[aH,aH,Dgs.length q]
theorem mU:∀ {ns:List Int}{vs:List V},Dgs L T (ns.map .int) vs↔vs=ns.map V.int
 |[],vs=>gA
 |n::ns,vs=>by
  rw[aN,fO]
  constructor
  ·rintro⟨v,r,rfl,h1,h2⟩
   rw[gj.mp h1,mU.mp h2];rfl
  ·rintro rfl
   exact⟨_,_,rfl,gj.mpr rfl,mU.mpr rfl⟩
theorem Dgs.append:∀ {ds es:List PyData}{vs us:List V},Dgs L T ds vs->Dgs L T es us->Dgs L T (ds++es) (vs++us)
 |[],_,_,_,h,k=>by rw[gA.mp h];exact k
 |d::ds,_,_,_,h,k=>by
  obtain⟨v,r,rfl,h1,q⟩:=fO.mp h
  exact fO.mpr ⟨v,_,rfl,h1,Dgs.append q k⟩
theorem Dgs.one {d:PyData}{v:V}(h:Dg L T d v):Dgs L T [d] [v]:=fO.mpr ⟨v,[],rfl,h,gA.mpr rfl⟩
theorem Dgs.two {d e:PyData}{v u:V}(h:Dg L T d v)(k:Dg L T e u):Dgs L T [d,e] [v,u]:=fO.mpr ⟨v,[u],rfl,h,.one k⟩
theorem Dgs.get:∀ {ds:List PyData}{vs:List V}{i:Nat}{v:V},Dgs L T ds vs->vs[i]? = some v->∃ d,ds[i]? = some d/\Dg L T d v
 |[],_,_,_,h,e=>by rw[gA.mp h]at e;simp at e
 |d::ds,_,0,v,h,e=>by
  obtain⟨x,r,rfl,h1,q⟩:=fO.mp h
  simp at e;subst e
  exact⟨d,rfl,h1⟩
 |d::ds,_,i+1,v,h,e=>by
  obtain⟨x,r,rfl,h1,q⟩:=fO.mp h
  obtain⟨d',e1,e2⟩:=Dgs.get (i:=i) (v:=v) q (by simpa using e)
  exact⟨d',by simpa using e1,e2⟩
theorem Dgs.insert:∀ {ds:List PyData}{vs:List V} (i:Nat) {d:PyData}{v:V},Dgs L T ds vs->Dg L T d v->Dgs L T (ds.take i++d::ds.drop i) (vs.take i++v::vs.drop i)
 |ds,vs,0,d,v,h,k=>fO.mpr ⟨v,vs,by simp,k,by simpa using h⟩
 |[],vs,i+1,d,v,h,k=>by rw[gA.mp h];simpa using Dgs.one k
 |x::ds,vs,i+1,d,v,h,k=>by
  obtain⟨y,r,rfl,h1,q⟩:=fO.mp h
  exact fO.mpr ⟨y,_,rfl,h1,Dgs.insert i q k⟩
end
noncomputable abbrev Da (K:PySem.W.Frag)(H:Hp):PyData->V->Prop:=Dg (SqL K H) (SqT K H)
noncomputable abbrev Das (K:PySem.W.Frag)(H:Hp):List PyData->List V->Prop:=Dgs (SqL K H) (SqT K H)
theorem gv {K:PySem.W.Frag}{H H':Hp}{a:Addr}{xs:List V}(e:eW H H')(h:SqT K H a xs):SqT K H' a xs:=by
 rcases h with(h |⟨o,h⟩)|h
 ·exact .inl (.inl (e _ _ h))
 ·exact .inl (.inr ⟨o,e _ _ h⟩)
 ·exact .inr h
theorem Da.same {K:PySem.W.Frag}{H H':Hp}(e:eW H H'){d:PyData}{v:V}(h:Da K H d v):Da K H' d v:=Dg.mono (λ_ _ q=>e.seq q) (λ_ _ q=>gv e q) h
theorem Das.same {K:PySem.W.Frag}{H H':Hp}(e:eW H H'){d:List PyData}{v:List V}(h:Das K H d v):Das K H' d v:=Dgs.mono (λ_ _ q=>e.seq q) (λ_ _ q=>gv e q) h
section
variable {X:Cx}{pins:List (Addr×Obj)}{σ:St}{H:Hp}{s:Shared}
mutual
theorem Da.reads (I:Inv X pins σ H s):∀ {d:PyData}{v:V}{u:Value},Da X.K H d v->RelV v u->∃ as,Reads s.heap u d as
 |.none,v,u,h,r=>by
  have e:v = .non:=by simpa only[Dg]using h
  subst e;cases r;exact⟨_,.none⟩
 |.bool b,v,u,h,r=>by
  have e:v = .bl b:=by simpa only[Dg]using h
  subst e;cases r;exact⟨_,.bool b⟩
 |.int i,v,u,h,r=>by
  have e:v = .int i:=by simpa only[Dg]using h
  subst e;obtain⟨t,rfl⟩:=r;exact⟨_,.int i t⟩
 |.str i,v,u,h,r=>by
  have e:v = .str i:=by simpa only[Dg]using h
  subst e;obtain⟨t,rfl⟩:=r;exact⟨_,.str i t⟩
 |.list ds,v,u,h,r=>by
  obtain⟨a,vs,rfl,l,q⟩:=iY.mp h
  cases r
  obtain⟨its,rv,p,hz⟩:=I.list l
  obtain⟨as,rs⟩:=Das.reads I q rv
  obtain⟨o,ho,hc,n,hd⟩:=p.isList
  exact⟨_,.list ho hc hd (by simpa using rs)⟩
 |.tuple ds,v,u,h,r=>by
  obtain⟨a,vs,rfl,l,q⟩:=gd.mp h
  cases r
  obtain⟨its,rv,p,hz⟩:=I.tuple l
  obtain⟨as,rs⟩:=Das.reads I q rv
  obtain⟨o,ho,hc,n,hd⟩:=p
  exact⟨_,.tuple ho hc hd (by simpa using rs)⟩
 |.dict _,v,u,h,r=>by simp only[Dg]at h
theorem Das.reads (I:Inv X pins σ H s):∀ {ds:List PyData}{vs:List V}{us:List Value},Das X.K H ds vs->Vals vs us->∃ as,ReadsAll s.heap us ds as
 |[],vs,us,h,r=>by
  rw[gA.mp h]at r;cases r;exact⟨_,.nil⟩
 |d::ds,vs,us,h,r=>by
  obtain⟨v,w,rfl,h1,q⟩:=fO.mp h
  cases r with
  |cons r1 r2=>
   obtain⟨as,e1⟩:=Da.reads I h1 r1
   obtain⟨bs,e2⟩:=Das.reads I q r2
   exact⟨_,.cons e1 e2⟩
end
end
section
variable {X:Cx}
noncomputable def OkD (d:PyData):Prop:=d.canLay0=true/\d.depth<=20
noncomputable def M0 (K:PySem.W.Frag):R2:=λx y H Q=>∃ d e,Da K H d x/\Da K H e y/\OkD d/\OkD e/\Q (.bl (PyData.eqv d e)) H
noncomputable def MW (K:PySem.W.Frag):R2:=λx y H Q=>∃ d e,Da K H d x/\Da K H e y/\OkD d/\OkD e/\Q (.bl (!PyData.eqv d e)) H
theorem I0 (hu:X.A.units+64<cLine):OpR X (compareOp .Eq) (M0 X.K):=by
 intro pins s σ H x y v u Q I rx ry h
 obtain⟨d,e,h1,h2,o1,o2,q⟩:=h
 obtain⟨as,r1⟩:=Da.reads I h1 rx
 obtain⟨bs,r2⟩:=Da.reads I h2 ry
 exact SeqAt.compareEq_reads r1 r2 o1.1 o2.1 (by have:=o1.2;have:=o2.2;omega) ⟨.bl _,H,I,rfl,q⟩
theorem FF (hu:X.A.units+64<cLine):OpR X (compareOp .NotEq) (MW X.K):=by
 intro pins s σ H x y v u Q I rx ry h
 obtain⟨d,e,h1,h2,o1,o2,q⟩:=h
 obtain⟨as,r1⟩:=Da.reads I h1 rx
 obtain⟨bs,r2⟩:=Da.reads I h2 ry
 exact SeqAt.compareNe_reads r1 r2 o1.1 o2.1 (by have:=o1.2;have:=o2.2;omega) ⟨.bl _,H,I,rfl,q⟩
noncomputable def HG (ds:List PyData):Prop:=PyData.canLayAll0 ds=true/\PyData.depthAll ds<=20
noncomputable def Kr (K:PySem.W.Frag)(neg:Bool):R2:=λx y H Q=>∃ ds d,Da K H (.list ds) y/\Da K H d x/\HG ds/\OkD d/\Q (.bl (if neg then !(ds.any λz=>PyData.eqv z d)else ds.any λz=>PyData.eqv z d)) H
theorem kW (hu:X.A.units+64<cLine):OpR X (compareOp .NotIn) (Kr X.K true):=by
 intro pins s σ H x y v u Q I rx ry h
 obtain⟨ds,d,h1,h2,o1,o2,q⟩:=h
 obtain⟨as,r1⟩:=Da.reads I h1 ry
 obtain⟨bs,r2⟩:=Da.reads I h2 rx
 exact SeqAt.notIn_list_reads r1 r2 o1.1 o2.1 (by have:=o1.2;have:=o2.2;omega) ⟨.bl _,H,I,rfl,q⟩
end
theorem kM {α:Type}{f:α->PyData}(h:∀ x,(f x).canLay0=true):∀ l:List α,PyData.canLayAll0 (l.map f)=true
 |[]=>by simp[PyData.canLayAll0]
 |x::l=>by simp[PyData.canLayAll0,h x,kM h l]
theorem kL {α:Type}{f:α->PyData}{k:Nat}(h:∀ x,(f x).depth<=k):∀ l:List α,PyData.depthAll (l.map f)<=k
 |[]=>by simp[PyData.depthAll]
 |x::l=>by
  simp only[aN,PyData.depthAll]
  exact Nat.max_le.mpr ⟨h x,kL h l⟩
noncomputable def dI (ns:List Int):PyData:=.list (ns.map .int)
noncomputable def dP (p:Int×Int):PyData:=.tuple [.int p.1,.int p.2]
noncomputable def dJ (js:List (Int×Int)):PyData:=.list (js.map dP)
noncomputable def dL (l:Int×List (Int×Int)):PyData:=.tuple [.int l.1,dJ l.2]
theorem qJ (i:Int):OkD (.int i):=⟨rfl,by simp[PyData.depth]⟩
theorem Ar (ns:List Int):OkD (dI ns):=⟨by simp only[dI,PyData.canLay0];exact kM (λ_=>rfl) ns,by
 simp only[dI,PyData.depth]
 have:=kL (f:=PyData.int) (k:=0) (λ_=>by simp[PyData.depth]) ns
 omega⟩
theorem A6 (p:Int×Int):(dP p).canLay0=true:=by simp[dP,PyData.canLay0,PyData.canLayAll0]
theorem CS (p:Int×Int):(dP p).depth<=1:=by simp[dP,PyData.depth,PyData.depthAll]
theorem Ky (p:Int×Int):OkD (dP p):=⟨A6 p,by have:=CS p;omega⟩
theorem Jd (js:List (Int×Int)):HG (js.map dP):=⟨kM A6 js,by have:=kL CS js;omega⟩
theorem Ik (p q:Int×Int):PyData.eqv (dP p) (dP q)=decide (p=q):=by
 obtain⟨a,b⟩:=p
 obtain⟨c,d⟩:=q
 simp only[dP,PyData.eqv,PyData.eqvAll,Bool.and_true]
 rw[bT]
 simp
theorem Ll (js:List (Int×Int))(p:Int×Int):((js.map dP).any λz=>PyData.eqv z (dP p))=decide (p∈js):=by
 rw[List.any_map,bT,dt,cF]
 constructor
 ·rintro⟨x,hx,e⟩
  have e':PyData.eqv (dP x) (dP p)=true:=e
  rw[Ik,cF]at e'
  rw[<-e'];exact hx
 ·intro h
  exact⟨p,h,by show PyData.eqv (dP p) (dP p)=true;rw[Ik];simp⟩
theorem zu (ds:List PyData):PyData.eqv (.list ds) (.list [])=ds.isEmpty:=by
 cases ds<;>simp[PyData.eqv,PyData.eqvAll]
theorem Hh:OkD (.list []):=Ar []
section
variable {X:Cx}
theorem Hq (its:List Value)(k:Nat)(y:Value):(its.toArray.extract 0 k).push y++its.toArray.extract k=(its.take k++y::its.drop k).toArray:=PySem.W.kl_ins_eq its k y
noncomputable def GZ:V->List V->Hp->VK->Prop:=λx vs H Q=>∃ l xs i y,x = .ref l/\vs = [.int i,y]/\H l=some (.lst xs)/\0<=i/\i<=xs.length/\xs.length<sizeLine/\Q .non (upd H l (.lst (xs.take i.toNat++y::xs.drop i.toNat)))
theorem DW:MtM X "list.insert" GZ:=by
 intro pins s σ H x vs v us Q I rx rv h
 obtain⟨l,xs,i,y,rfl,rfl,hH,h0,h1,hz,q⟩:=h
 cases rx
 obtain⟨ui,u,rfl,ri,ru⟩:=rv.two
 obtain⟨t,rfl⟩:=ri
 obtain⟨z,its,n,r,hl,e⟩:=I.DX hH
 have hs:its.toArray.size<=sizeLine:=by rw[aJ];omega
 have hf:Builtin.List.listFitsIndex i=true:=by
  unfold Builtin.List.listFitsIndex
  have h63:(sizeLine:Nat)<2 ^ 62:=by rw[aE];decide
  simp only[bN,cq]
  constructor<;>omega
 refine dF PySem.F.slot_list_insert ⟨_,e,rfl⟩ PySem.F.entry_list_insert (PySem.F.args_list_insert_3 _ _ _) (PySem.AutoSeq1.list_insert_list_int_val_1 l its.toArray n i t u (by simp[hf]) hs) ⟨e,?_⟩
 refine⟨.non,_,I.KN (its':=its.take i.toNat++u::its.drop i.toNat) (ys:=xs.take i.toNat++y::xs.drop i.toNat) hH e ?_ ((r.take i.toNat).append (.cons ru (r.drop i.toNat))) ?_,rfl,q⟩
 ·have hk:(if i<0 then(i+(its.toArray.size:Int)).toNat else min i.toNat its.toArray.size)=i.toNat:=by
   rw[ak (by omega),aJ]
   omega
  show(its.toArray.extract 0 (if i<0 then(i+(its.toArray.size:Int)).toNat else min i.toNat its.toArray.size)).push u++its.toArray.extract (if i<0 then(i+(its.toArray.size:Int)).toNat else min i.toNat its.toArray.size)=_
  rw[hk,Hq]
 ·rw[aG,aH,aI,bp]
  omega
end
noncomputable def srt (ns:List Int):List Int:=ns.mergeSort (λa b=>decide (a<=b))
theorem rH (ns:List Int):(srt ns).Perm ns:=List.mergeSort_perm ns _
theorem zP (ns:List Int):(srt ns).Pairwise (· <= ·):=by
 have h:=List.pairwise_mergeSort (le:=λa b:Int=>decide (a<=b)) (by intro a b c h1 h2;simp only[cq]at *;omega) (by intro a b;simp only[Bool.or_eq_true,cq];omega) ns
 exact h.imp (by intro a b h;simpa using h)
theorem Bo {a b:List Int}(hp:a.Perm b)(ha:a.Pairwise (· <= ·))(hb:b.Pairwise (· <= ·)):a=b:=PySem.W.ksm_same hp ha hb
theorem EU {a ns:List Int}(hp:a.Perm ns)(ha:a.Pairwise (· <= ·)):a=srt ns:=Bo (hp.trans (rH ns).symm) ha (zP ns)
theorem DA {a b:List Int}(hp:a.Perm b):srt a=srt b:=EU ((rH a).trans hp) (zP a)
theorem GU {ns:List Int}{x:Int} :x∈srt ns↔x∈ns:=(rH ns).mem_iff
theorem oI (ns:List Int):(srt ns).length=ns.length:=(rH ns).length_eq
section
variable {X:Cx}
theorem ud:jY X (.builtin "sorted") (λxs H Q=>∃ a ns,xs = [.ref a]/\SqL X.K H a (ns.map V.int)/\ns.length<64/\∀ p,H p=none->Q (.ref p) (upd H p (.lst ((srt ns).map V.int)))):=by
 intro pins s σ H xs us Q I r h
 obtain⟨a,ns,rfl,hx,h64,q⟩:=h
 obtain⟨u,rfl,ru⟩:=vals1 r
 cases ru
 obtain⟨its,rv,p,hz⟩:=I.list hx
 have hlen:=rv.length
 rw[aa]at hlen
 refine sorted_ints p.isList (intsAre_of rv) (by omega) λout ns' h1 h2 h3=>?_
 obtain⟨e,he⟩:=sortedAll_at s.heap its out
 have e':ns'=srt ns:=EU h2 h3
 subst e'
 have vo:Vals ((srt ns).map V.int) out.toList:=sI h1
 refine⟨.ref (s.heap.objs.size+1),_,I.laid (t':=s.toks) (o:=.lst ((srt ns).map V.int)) (λb ob q=>sortedAll_old q) (Nat.le_succ _) ⟨?_,out.toList,e,vo,?_⟩,rfl,q _ (I.hok.fresh (Nat.le_succ _))⟩
 ·rw[aa,oI]
  rw[aa]at hz
  exact hz
 ·rw[he,Array.toArray_toList]
end
theorem Inv.Dr {X:Cx}{pins:List (Addr×Obj)}{σ:St}{H:Hp}{s:Shared}{h':Heap}{t':Nat}{ch:List Addr}{xs:List V}{us:List Value}(I:Inv X pins σ H s)(hf:∀ b∈ch,nU X pins H b)
  (keep:∀ b o,b∉ch->s.heap.get? b=some o->h'.get? b=some o) (r:Vals xs us) (hz:xs.length<=sizeLine) (ht:h'.get? s.heap.objs.size=some {cls:=.type "tuple",data:=.seq us.toArray}):
  Inv X pins σ (upd H s.heap.objs.size (.tup xs)) {s with heap:=h',toks:=t'} :=by
 have hn:H s.heap.objs.size=none:=I.fresh
 have nch:∀ b u,H b=some u->b∉ch:=λb u q z=>by rw[(hf b z).1]at q;cases q
 refine I.step (g':=s.gens) (d':=s.drawn) (ch:=ch) (λb hb=>?_) (λb o _ _ hc q _=>keep b o hc q) (λb o _ _ hc q _=>⟨o.slots,keep b o hc q⟩) (λb o _ q n=>?_)
  (λb o hc q=>⟨o,keep b o hc q⟩) (λb ys q=>by rw[fw (ft q hn)];exact q) (λb o ys q=>by rw[fw (ft q hn)];exact q) (λb ps q=>⟨#[],by rw[fw (ft q hn),q];simp⟩) (λm hm=>?_) (λb u q=>?_) I.bare
 ·obtain⟨f0,f1,f2,f3,f4,f5⟩:=hf b hb
  exact⟨f3,f1,f4,f5⟩
 ·rw[fw (aD (ar q))];exact n
 ·obtain⟨o,es,ep,ho,r⟩:=hm
  exact⟨o,es,ep,keep _ o (λz=>(hf _ z).2.1 rfl) ho,r⟩
 ·by_cases hb:b=s.heap.objs.size
  ·subst hb
   rw[eO]at q
   cases q
   exact⟨hz,us,r,⟨_,ht,rfl,_,rfl⟩⟩
  ·rw[fw hb]at q
   refine(I.hok b u q).rf (λc v hc q'=>keep c v ?_ q') (λc z=>by rw[fw (ft z hn)];exact z) λc ys z=>by rw[fw (ft z hn)];exact z
   rcases hc with z |z
   ·rw[z];exact nch b u q
   ·exact nch c _ z
noncomputable def Itv (K:PySem.W.Frag)(a:Addr):It:=
 ⟨λi H=>∃ xs x,SqL K H a xs/\xs.reverse[i]? = some x,λi H x H'=>H'=H/\∀ xs,SqL K H a xs->xs.reverse[i]? = some x,λi H=>∃ xs,SqL K H a xs/\xs.length=i⟩
theorem EK {P:Program}{w:World}{K:PySem.W.Frag}{tg:Expr}(a it:Addr)(n:Nat):Turn P w K tg ⟨λi H=>(Itv K a).go i H/\∃ xs,SqL K H a xs/\xs.length=n,(Itv K a).yld,λi H=>i=n⟩ [it] it (λi h=>i<=n/\h.IsRevIter it a ((n:Int)-1-(i:Int))) where
 mem:=by simp
 obj:=λi h st b hb=>by
  have e:b=it:=by simpa using hb
  subst e
  obtain⟨_,o,e,c,d⟩:=st
  exact⟨o,e,λv z=>by rw[d]at z;cases z⟩
 keep:=λi h h' st k=>⟨st.1,st.2.at λo e=>k it (by simp) o e⟩
 item:=by
  intro X hP hw hK hc i pins s σ H E I hf st hg
  subst hP hw hK
  obtain⟨⟨xs,x,hq,hx⟩,ys,hq2,hn⟩:=hg
  have e0:=I.qb hq2 hq
  subst e0
  obtain⟨its,rv,p,hz⟩:=I.list hq
  have hil:i<ys.length:=by have:=(af.mp hx).1;rwa [dD]at this
  have hx':ys[ys.length-1-i]? = some x:=by rw[List.getElem?_reverse hil]at hx;exact hx
  obtain⟨u,hu,ru⟩:=rv.get hx'
  obtain⟨f0,f1,f2,f3,f4,f5⟩:=hf it (by simp)
  have e1:(n:Int)-1-(i:Int)=((ys.length-1-i:Nat):Int):=by omega
  have st2:=st.2
  rw[e1]at st2
  refine wpAny_pyNext_rev_item st2 p.isList (x:=u) (by simpa using hu) λh' st' sb=>?_
  have I1:Inv X pins σ H {s with heap:=h'} :=I.turned (t':=s.toks) (λb o hb e=>(sb.2 b hb).trans e) f0 f1 f3 f4 f5
  have e2:((ys.length-1-i:Nat):Int)-1=(n:Int)-1-((i+1:Nat):Int):=by omega
  rw[e2]at st'
  obtain⟨o,e,c,d⟩:=id st'
  exact⟨u,rfl,AS (s:={s with heap:=h'}) e c d (by decide) ⟨x,H,I1,ru,⟨rfl,λzs hy=>by rw[I.qb hy hq];exact hx⟩,⟨by omega,st'⟩,λb hb=>(hf b hb).1⟩⟩
 done:=by
  intro X hP hw hK hc i pins s σ H E I hf st hg
  subst hP hw hK
  have hg:i=n:=hg
  subst hg
  obtain⟨f0,f1,f2,f3,f4,f5⟩:=hf it (by simp)
  have e1:(i:Int)-1-(i:Int) = -1:=by omega
  have st2:=st.2
  rw[e1]at st2
  exact wpAny_pyNext_rev_end (I.ok.hd hc) st2 λh' eb=>⟨rfl,I.turned (t':=s.toks) (λb o hb e=>eb b o hb e) f0 f1 f3 f4 f5⟩
 self:=λ_ _ _ _ _ st h=>wpAny_pyIter_revIter st.2 h
section
variable {X:Cx}{tg:Expr}
noncomputable def R8 (K:PySem.W.Frag)(ta:TA):TI:=λσ H R=>ta σ H λvs H1=>∃ a xs,vs = [.ref a]/\SqL K H1 a xs/\R ⟨λi H=>(Itv K a).go i H/\∃ ys,SqL K H a ys/\ys.length=xs.length,(Itv K a).yld,λi H=>i=xs.length⟩ H1
theorem IM {a:Expr}{ta:TA}{p pos:Pos}(hg:Gl X "reversed")(hm:X.mg "reversed" = none)(ha:PA X [a] ta)(hs:starEach [a] X.env = [(false,eval a X.env)]:=by rfl):PI X tg (.Call (.Name "reversed" p) [a] [] pos) (R8 X.K ta):=by
 intro pins s σ H R I h
 refine Call_ (rp I hg hm boot_reversed (cL (thn (ha pos pins s σ H _ I h) λus s1 ⟨vs,H1,I1,r1,q1⟩=>?_) hs rfl))
 obtain⟨a,xs,e,hq,q⟩:=q1
 subst e
 obtain⟨u,rfl,ru⟩:=vals1 r1
 cases ru
 obtain⟨its,rv,pl,hz⟩:=I1.list hq
 have hl:=rv.length
 refine call_reversed_list pl.isList ?_
 have hit:Heap.IsRevIter (s1.heap.push (revObj a ((its.toArray.size:Int)-1))) s1.heap.objs.size a (((xs.length:Nat):Int)-1-((0:Nat):Int)):=by
  refine⟨_,aM _ rfl,rfl,?_⟩
  have e1:((xs.length:Nat):Int)-1-((0:Nat):Int)=(its.toArray.size:Int)-1:=by rw[aJ];omega
  rw[e1];rfl
 refine wpAny_pyIter_revIter (s:={s1 with heap:=s1.heap.push (revObj a ((its.toArray.size:Int)-1))}) hit ?_
 refine⟨s1.heap.objs.size,[s1.heap.objs.size],_,_,H1,rfl,I1.kept (t':=s1.toks) (λb o e=>aj _ e),EK a _ xs.length,⟨aV _,hit⟩,λb hb=>?_,q⟩
 have e:b=s1.heap.objs.size:=by simpa using hb
 subst e
 exact I1.Gp (aw _) (I1.hok.fresh (aw _))
end
theorem A7 {X:Cx} :jY X (.builtin "isinstance") (λxs H Q=>∃ x c t b,xs = [x,.ty c]/\tL X.K H x t/\PySem.W.kitOne X.K t (.type c)=some b/\Q (.bl b) H):=by
 intro pins s σ H xs us Q I r h
 obtain⟨x,c,t,b,rfl,ty,e,q⟩:=h
 obtain⟨u,u2,rfl,ru,rc⟩:=vals2 r
 cases rc
 exact Ed I ru ty e λtk=>⟨.bl b,H,I.tok tk,rfl,q⟩
structure Bl (mg:Str->Option Value):Prop where
 len:mg "len" = none
 range:mg "range" = none
 sorted:mg "sorted" = none
 enumerate:mg "enumerate" = none
 reversed:mg "reversed" = none
 min:mg "min" = none
 max:mg "max" = none
 list:mg "list" = none
 int:mg "int" = none
 isinstance:mg "isinstance" = none
structure Fn (K:PySem.W.Frag)(mg:Str->Option Value)(x:Str)(st:Stmt)(ps:List Str)(f:Addr)(fd:FuncData):Prop where
 F:Fun K x x st f fd
 m:mg x=some (.ref f)
 b:Binds K fd ps []
noncomputable def below (js:List (Int×Int))(e:Int):List Int:=(js.filter λp=>decide (p.2=e)).map (·.1)
noncomputable def above (js:List (Int×Int))(e:Int):List Int:=(js.filter λp=>decide (p.1=e)).map (·.2)
noncomputable def inc (js:List (Int×Int))(e:Int):Nat:=(below js e).length+(above js e).length
noncomputable def jn (js:List (Int×Int))(e:Int):List Int:=srt (below js e++above js e)
structure gI (l:Int×List (Int×Int)):Prop where
 one:1<=l.1
 most:l.1<=40
 len:l.2.length<=80
 inc:∀ e,inc l.2 e<=60
 ends:∀ p∈l.2,0<=p.1/\p.1<=p.2/\p.2<2*l.1
theorem inc_le (js:List (Int×Int))(e:Int):inc js e<=2*js.length:=by
 unfold inc below above
 rw[aa,aa]
 have h1:=bD (λp:Int×Int=>decide (p.2=e)) js
 have h2:=bD (λp:Int×Int=>decide (p.1=e)) js
 omega
noncomputable def qN (H:Hp)(ns:List Int)(Q:VK):Prop:=∀ (p:Addr) (H':Hp),eW H H'->H p=none->H' p=some (.lst (ns.map V.int))->Q (.ref p) H'
theorem eW.upd {H H':Hp}{l:Addr}{o:HO}(s:eW H H')(hn:H l=none):eW H (upd H' l o):=λb u e=>by rw[fw (ft e hn)];exact s b u e
theorem iJ {K:PySem.W.Frag}{H:Hp}{ns:List Int}{v:V} :Da K H (dI ns) v↔∃ a,v = .ref a/\SqL K H a (ns.map V.int):=by
 unfold dI
 refine Iff.trans iY ?_
 constructor
 ·rintro⟨a,vs,rfl,h,q⟩
  rw[mU.mp q]at h
  exact⟨a,rfl,h⟩
 ·rintro⟨a,rfl,h⟩
  exact⟨a,_,rfl,h,mU.mpr rfl⟩
theorem iZ {K:PySem.W.Frag}{H:Hp}{ns:List Int}{p:Addr}(h:H p=some (.lst (ns.map V.int))):Da K H (dI ns) (.ref p):=iJ.mpr ⟨p,rfl,SqL.of h⟩
theorem i3 {K:PySem.W.Frag}{H:Hp}{l:Int×List (Int×Int)}{v:V}(h:Da K H (dL l) v):∃ a b,v = .ref a/\SqT K H a [.int l.1,.ref b]/\∃ vs,SqL K H b vs/\Das K H (l.2.map dP) vs:=by
 unfold dL at h
 obtain⟨a,vs,rfl,ht,q⟩:=gd.mp h
 obtain⟨v1,r,rfl,h1,q⟩:=fO.mp q
 obtain⟨v2,r,rfl,h2,q⟩:=fO.mp q
 cases gA.mp q
 cases gj.mp h1
 unfold dJ at h2
 obtain⟨b,us,rfl,hl,q⟩:=iY.mp h2
 exact⟨a,b,rfl,ht,us,hl,q⟩
theorem qg {K:PySem.W.Frag}{H:Hp}{js:List (Int×Int)}{vs:List V}{i:Nat}{x:V}(h:Das K H (js.map dP) vs)(e:vs[i]? = some x):∃ a p,js[i]? = some p/\x = .ref a/\SqT K H a [.int p.1,.int p.2]:=by
 obtain⟨d,e1,hd⟩:=Dgs.get h e
 rw[ah]at e1
 cases q:js[i]? with
 |none=>rw[q]at e1;cases e1
 |some p=>
  rw[q]at e1
  cases e1
  unfold dP at hd
  obtain⟨a,us,rfl,ht,q⟩:=gd.mp hd
  obtain⟨v1,r,rfl,h1,q⟩:=fO.mp q
  obtain⟨v2,r,rfl,h2,q⟩:=fO.mp q
  cases gA.mp q
  cases gj.mp h1
  cases gj.mp h2
  exact⟨a,p,rfl,rfl,ht⟩
theorem sV (ms:List Int):HG (ms.map PyData.int):=⟨kM (λ_=>rfl) ms,by have:=kL (f:=PyData.int) (k:=0) (λ_=>by simp[PyData.depth]) ms;omega⟩
theorem yo (ms:List Int)(x:Int):((ms.map PyData.int).any λz=>PyData.eqv z (.int x))=decide (x∈ms):=by
 rw[List.any_map,bT,dt,cF]
 constructor
 ·rintro⟨y,hy,e⟩
  have e':PyData.eqv (.int y) (.int x)=true:=e
  simp only[PyData.eqv,cG]at e'
  rw[<-e'];exact hy
 ·intro h
  exact⟨x,h,by show PyData.eqv (.int x) (.int x)=true;simp[PyData.eqv]⟩
theorem iQ {i:Nat}{x:V}{σ:St}{H:Hp}{te:TE}{P1:VK}{P0:Hp->Prop}(h:te (σ.set i (some x)) H P1):lI i x σ H (λσ2 H2=>ER σ2 H2 λb H3=>if b=true then te σ2 H3 P1 else P0 H3):=ib (A:=te (σ.set i (some x)) H P1) (B:=P0 H) h
theorem jb {α:Type}(xs:List α):(xs.filter λ_=>true)=xs:=by simp
section
variable {X:Cx}{K:PySem.W.Frag}
theorem vE (hK:X.K=K)(hu:X.A.units+64<cLine):OpR X (compareOp .NotIn) (Kr K true):=hK ▸ kW hu
end
structure JS (J:It)(n:Nat)(H1:Hp)(it:Nat->V->Prop):Prop where
 go:∀ i H,eW H1 H->i<n->J.go i H
 yld:∀ i H x H',eW H1 H->i<n->J.yld i H x H'->H'=H/\it i x
 stop:∀ H,eW H1 H->J.stop n H
theorem gr {K:PySem.W.Frag}{a:Addr}{xs:List V}{H1:Hp}(hx:SqL K H1 a xs):JS (Itl K a) xs.length H1 (λi x=>xs[i]? = some x):=
 ⟨λi H s hi=>⟨xs,xs[i],s.seq hx,by simp⟩,λi H x H' s hi y=>⟨y.1,y.2 xs (s.seq hx)⟩,λH s=>⟨xs,s.seq hx,aw _⟩⟩
theorem Jo {K:PySem.W.Frag}{a:Addr}{xs:List V}{H1:Hp}(hx:SqL K H1 a xs):JS ⟨λi H=>(Itv K a).go i H/\∃ ys,SqL K H a ys/\ys.length=xs.length,(Itv K a).yld,λi H=>i=xs.length⟩ xs.length H1 (λi x=>xs.reverse[i]? = some x):=
 ⟨λi H s hi=>⟨⟨xs,xs.reverse[i]'(by rw[dD];exact hi),s.seq hx,aO _⟩,xs,s.seq hx,rfl⟩,λi H x H' s hi y=>⟨y.1,y.2 xs (s.seq hx)⟩,λH s=>rfl⟩
theorem sf {α:Type}{J:It}{n:Nat}{it:Nat->V->Prop}{l:Addr}{g:TG}{tt:TT}{te:TE}{cap:List (Option Nat)}{σ:St}{Q:VK}{H1:Hp}(S:JS J n H1 it)(ds:List α)(p:α->Bool)(f:α->V)(hn:H1 l=none)(hlen:n=ds.length)(hz:n<sizeLine)
  (hs:∀ (i:Nat) x d H,it i x->ds[i]? = some d->eW H1 H->∀ (P1:VK) (P0:Hp->Prop),(p d=true->P1 (f d) H)->(p d=false->P0 H)->
   g x (ju cap σ) H λσ2 H2=>tt σ2 H2 λb H3=>if b=true then te σ2 H3 P1 else P0 H3)
  (hq:Q (.ref l) (upd H1 l (.lst ((ds.filter p).map f)))):LcW J g tt te cap σ Q l H1:=by
 refine⟨λi m acc H=>m=n-i/\i<=n/\acc=((ds.take i).filter p).map f/\H=upd H1 l (.lst acc),⟨n,by simp,aV _,rfl,rfl⟩,?_⟩
 rintro i m acc H ⟨rfl,hi,e1,e2⟩
 have sm:eW H1 H:=by rw[e2];exact eN hn
 by_cases hlt:i<n
 ·refine .inr ⟨S.go i H sm hlt,λxp H'=>xp=((ds.take (i+1)).filter p).map f/\H'=upd H1 l (.lst xp),λxp H' ⟨p1,p2⟩=>⟨n-(i+1),by omega,rfl,hlt,p1,p2⟩,λx H' y0=>?_⟩
  obtain⟨e,y⟩:=S.yld i H x H' sm hlt y0
  clear y0
  subst e
  have hd:ds[i]? = some (ds[i]'(by omega)):=by simp
  generalize ds[i]'(by omega)=d at hd
  have step:((ds.take (i+1)).filter p).map f=acc++(if p d=true then[f d]else[]):=by
   rw[take_succ_filter p ds i d hd,aC,e1]
   cases p d<;>rfl
  refine hs i x d H' y hd sm _ _ (λhp=>?_) (λhp=>?_)
  ·refine⟨by rw[e2,eO],?_,?_,?_⟩
   ·have h1:acc.length<=i:=by
     rw[e1,aa]
     exact aT (bD _ _) (by rw[aI];omega)
    omega
   ·rw[step,hp];rfl
   ·rw[e2,qC]
  ·refine⟨?_,e2⟩
   rw[step,hp,ak ax,bS]
 ·have e:i=n:=by omega
  subst e
  refine .inl ⟨S.stop H sm,?_⟩
  rw[hlen,bo]at e1
  rw[e2,e1]
  exact hq
noncomputable abbrev Mv:=(Str×Int)×List Int
noncomputable def dMv (m:Mv):PyData:=.tuple [.tuple [.str m.1.1,.int m.1.2],dI m.2]
noncomputable def fr (l:Int×List (Int×Int))(ns:List Int)(e:Int):List Int:=(jn l.2 e).filter λt=> !decide (t/2∈ns.map (· / 2))
noncomputable def onM (ns:List Int)(e:Int):Mv:=(("on",e),ns.drop 1 ++ [e])
noncomputable def wq (ns:List Int)(e:Int):Mv:=(("back",e),oth e::ns.dropLast)
noncomputable def mvs (l:Int×List (Int×Int))(ns:List Int):List Mv:=(fr l ns (oth (ns.getLastD 0))).map (onM ns)++(fr l ns (ns.headD 0)).map (wq ns)
noncomputable def Lf (H H2:Hp)(t:Addr):Addr->List V->Prop:=λa us=>H2 a=some (.lst us)/\H a=none/\a≠t
theorem oJ {K:PySem.W.Frag}{H:Hp}{t b:Addr}{vs xs:List V}{o:HO}(ht:H t=some (.lst vs))(h:SqT K H b xs):SqT K (upd H t o) b xs:=by
 rcases h with(h |⟨o,h⟩)|h
 ·exact .inl (.inl (by rw[fw (Cu h ht (by intro z;cases z))];exact h))
 ·exact .inl (.inr ⟨o,by rw[fw (Cu h ht (by intro z;cases z))];exact h⟩)
 ·exact .inr h
theorem Dgs.grow {K:PySem.W.Frag}{H H2 H5:Hp}{t:Addr}{o:HO}{vs:List V}{ds:List PyData}{us:List V}(D:Dgs (Lf H H2 t) (SqT K H2) ds us)(S5:eW H2 H5)(ht:H5 t=some (.lst vs)):
  Dgs (Lf H (upd H5 t o) t) (SqT K (upd H5 t o)) ds us:=
 Dgs.mono (λa us ⟨h1,h2,h3⟩=>⟨by rw[fw h3];exact S5 _ _ h1,h2,h3⟩) (λa us h=>oJ ht (gv S5 h)) D
theorem qH {K:PySem.W.Frag}{H H2 H5:Hp}{t p1 p4 p5:Addr}{vs:List V}{ms:List Mv}{w:Str}{e:Int}{xs:List Int}(S:eW H H2)(hn:H t=none)(ht:H2 t=some (.lst vs))(D:Dgs (Lf H H2 t) (SqT K H2) (ms.map dMv) vs)
  (S5:eW H2 H5) (h1:H5 p1=some (.tup [.str w,.int e])) (n4:H2 p4=none) (h4:H5 p4=some (.lst (xs.map V.int))) (h5:H5 p5=some (.tup [.ref p1,.ref p4])):
  eW H (upd H5 t (.lst (vs ++ [.ref p5])))/\(upd H5 t (.lst (vs ++ [.ref p5]))) t=some (.lst (vs ++ [.ref p5]))/\
   Dgs (Lf H (upd H5 t (.lst (vs ++ [.ref p5]))) t) (SqT K (upd H5 t (.lst (vs ++ [.ref p5])))) ((ms ++ [((w,e),xs)]).map dMv) (vs ++ [.ref p5]):=by
 have ht5:=S5 _ _ ht
 have q4:p4≠t:=(ft ht n4).symm
 refine⟨eW.upd (S.trans S5) hn,eO,?_⟩
 rw[aC]
 refine Dgs.append (D.grow S5 ht5) (Dgs.one ?_)
 refine gd.mpr ⟨p5,_,rfl,oJ ht5 (SqT.of h5),Dgs.two ?_ ?_⟩
 ·exact gd.mpr ⟨p1,_,rfl,oJ ht5 (SqT.of h1),Dgs.two (nN.mpr rfl) (gj.mpr rfl)⟩
 ·exact iY.mpr ⟨p4,_,rfl,⟨by rw[fw q4];exact h4,eW.free S n4,q4⟩,mU.mpr rfl⟩
noncomputable def Bc (K:PySem.W.Frag)(H:Hp)(ms:List Mv)(Q:VK):Prop:=∀ (p:Addr) (vs:List V) (H':Hp),eW H H'->H p=none->H' p=some (.lst vs)->Dgs (Lf H H' p) (SqT K H') (ms.map dMv) vs->Q (.ref p) H'
theorem sA (ns:List Int):nO (ns.map V.int) (some 1) none=(ns.drop 1).map V.int:=by
 unfold nO
 rw[HT.rS]
 have e:HT.sIx (ns.map V.int).length 0 (some 1)=min 1 (ns.map V.int).length:=HT.yQ _ _ 1
 rw[e,aa,cW]
 cases ns with
 |nil=>rfl
 |cons a r=>
  have e1:min 1 (a::r).length=1:=by simp
  rw[e1]
  simp
  exact bh (by simp)
theorem AZ (ns:List Int):nO (ns.map V.int) none (some (-1))=ns.dropLast.map V.int:=by
 unfold nO
 have e:HT.sIx (ns.map V.int).length (ns.map V.int).length (some (-1))=ns.length-1:=by
  have h:=HT.HC (-1) (ns.map V.int).length (ns.map V.int).length
  rw[aa]at h ⊢
  rw[av (by decide)]at h
  omega
 rw[e,HT.rS,List.drop_zero,Nat.sub_zero,<-cV,List.dropLast_eq_take]
theorem nv {ns:List Int}(h:ns≠ []):atI (ns.map V.int) (-1)=some (V.int (ns.getLastD 0)):=by
 obtain⟨r,x,rfl⟩:∃ r x,ns=r ++ [x]:=⟨ns.dropLast,ns.getLast h,(List.dropLast_concat_getLast h).symm⟩
 rw[aC]
 show atI (r.map V.int ++ [V.int x]) (-1)=_
 rw[Ba]
 have e:(r ++ [x]).getLastD 0=x:=by simp[ej]
 rw[e]
theorem A9 {ns:List Int}(h:ns≠ []):atI (ns.map V.int) 0=some (V.int (ns.headD 0)):=by
 cases ns with
 |nil=>exact absurd rfl h
 |cons a r=>exact ik (j:=0) rfl
noncomputable abbrev NoL:Addr->List V->Prop:=λ_ _=>False
noncomputable abbrev Ps (K:PySem.W.Frag)(H:Hp)(js:List (Int×Int))(vs:List V):Prop:=Dgs NoL (SqT K H) (js.map dP) vs
theorem Ps.same {K:PySem.W.Frag}{H H':Hp}{js:List (Int×Int)}{vs:List V}(D:Ps K H js vs)(S:eW H H'):Ps K H' js vs:=Dgs.mono (λ_ _ h=>h) (λ_ _ h=>gv S h) D
theorem Ps.Ls {K:PySem.W.Frag}{H:Hp}{js:List (Int×Int)}{vs us:List V}{t:Addr}{o:HO}(D:Ps K H js vs)(ht:H t=some (.lst us)):Ps K (upd H t o) js vs:=Dgs.mono (λ_ _ h=>h) (λ_ _ h=>oJ ht h) D
theorem Ps.das {K:PySem.W.Frag}{H:Hp}{js:List (Int×Int)}{vs:List V}(D:Ps K H js vs):Das K H (js.map dP) vs:=Dgs.mono (λ_ _ h=>h.elim) (λ_ _ h=>h) D
theorem Ps.da {K:PySem.W.Frag}{H:Hp}{js:List (Int×Int)}{vs:List V}{t:Addr}(D:Ps K H js vs)(ht:H t=some (.lst vs)):Da K H (dJ js) (.ref t):=iY.mpr ⟨t,vs,rfl,SqL.of ht,D.das⟩
theorem Ps.len {K:PySem.W.Frag}{H:Hp}{js:List (Int×Int)}{vs:List V}(D:Ps K H js vs):vs.length=js.length:=by rw[D.length,aa]
theorem Hd {K:PySem.W.Frag}{H:Hp}{p:Addr}{x:Int×Int}(h:H p=some (.tup [.int x.1,.int x.2])):Dg NoL (SqT K H) (dP x) (.ref p):=gd.mpr ⟨p,_,rfl,SqT.of h,Dgs.two (gj.mpr rfl) (gj.mpr rfl)⟩
theorem Ps.ins {K:PySem.W.Frag}{H:Hp}{js:List (Int×Int)}{vs:List V}{t p:Addr}{x:Int×Int}{o:HO}(i:Nat)(D:Ps K H js vs)(ht:H t=some (.lst vs))(hp:H p=some (.tup [.int x.1,.int x.2])):Ps K (upd H t o) (js.take i++x::js.drop i) (vs.take i ++ .ref p::vs.drop i):=by
 show Dgs _ _ ((js.take i++x::js.drop i).map dP) _
 rw[aC,aN,cV,cW]
 exact Dgs.insert i (D.Ls ht) (Dg.mono (λ_ _ h=>h) (λ_ _ h=>oJ ht h) (Hd hp))
theorem oo {K:PySem.W.Frag}{H:Hp}{l:Int×List (Int×Int)}{p t:Addr}(h:H p=some (.tup [.int l.1,.ref t]))(hd:Da K H (dJ l.2) (.ref t)):Da K H (dL l) (.ref p):=gd.mpr ⟨p,_,rfl,SqT.of h,Dgs.two (gj.mpr rfl) hd⟩
theorem Fv {α:Type}(l:List α)(i:Nat)(x:α):(l.take i++x::l.drop i).Perm (x::l):=by
 have h:=dq (a:=x) (l₁:=l.take i) (l₂:=l.drop i)
 rw[cJ]at h
 exact h
theorem Jf (i j:Int):(if j<i then j else i)=min i j:=by omega
theorem Jh (i j:Int):(if j>i then j else i)=max i j:=by omega
theorem JP {ns:List Int}{i:Int}(h0:0<=i)(h1:i<ns.length):∃ x,ns[i.toNat]? = some x/\x∈ns/\atI (ns.map V.int) i=some (V.int x):=by
 have hlt:i.toNat<ns.length:=by omega
 refine⟨ns[i.toNat],by simp,eJ _,?_⟩
 have h:=ik (xs:=ns.map V.int) (j:=i.toNat) (v:=V.int ns[i.toNat]) (by rw[ah];simp)
 have e1:((i.toNat:Nat):Int)=i:=by omega
 rw[e1]at h
 exact h
end TL
namespace L2
open PySem PySem.Spec PySem.Calls PyProof.Rows PySem.W
variable {Q:Unit->Shared->Prop}
section
variable {prog:Program}{w:World}{A:Around}{E:Value->Shared->Prop}{s:Shared}{K:Frag}{a C:Addr}{o:Obj}
theorem xty {M:Model}{h:Heap}(hx:h.get? a=some o)(hc:o.cls = .ref C):Looks M h (typeOf (.ref a)) (.ref C):=hc ▸ (Looks.ld hx).andThen .now
open Builtin Builtin.ObjectAttr Builtin.Getset_descriptor in
theorem GJ {R:Result->Shared->Prop}{tp:Value}(X:K.In s.heap)(hx:s.heap.get? a=some o)(hc:o.cls = .ref C)(hm:mroIn K C (.type "object")=some true)
  (h:R (.ok (.ret (.ref C))) s):codeAny (model prog w) A (.call (.builtin "getset_descriptor.__get__") ⟨[.builtin "object.__class__",.ref a,tp],[]⟩) R s:=by
 obtain⟨hh,g,dr,t,os⟩:=s
 have L0:=xty (M:=model prog w) hx hc
 have L1:=looks_mroIn (M:=model prog w) X hm
 refine codeAny_call_builtin KF.slot_gs.plain KF.entry_gs (KF.slot_gs.check _ _ _ _ _ _ _ _ KF.type_class (KF.args_gs _ _ _) ?_)
 unfold Builtin.«getset_descriptor.__get__» descrGet
 rw[dga_obj]
 refine ae (ao ?_)
 unfold descrGetter descrCheckInstance descrNameAndClass isInstance
 simp only[KF.owner_class]
 repeat lk
 refine⟨Code.quiet_builtin _ (by decide +kernel),codeAny_builtin KF.entry_class ?_⟩
 unfold Builtin.«object.__class__» shownTypeOf
 repeat lk
 exact h
theorem Dk {tk:Tok}{Q:PySem.Fin->Shared->Prop}(X:K.In s.heap)(hx:s.heap.get? a=some o)(hc:o.cls = .ref C)(hm:mroIn K C (.type "object")=some true)
  (ha:findIn K (.ref C) "__class__" = some (some (.builtin "object.__class__"))) (hq:Q (.done (.ret (.ref C))) s):
  wpAny (model prog w) A (Builtin.«object.__getattribute__» ⟨[.ref a,.str "__class__" tk],[]⟩) Q E s:=by
 obtain⟨h,g,d,t,os⟩:=s
 have hT5:(⟨h,g,d,t,os⟩:Shared).TypeIs (.builtin "object.__class__") "getset_descriptor" :=F.typeOf_object_class
 have L0:=xty (M:=model prog w) hx hc
 have L1:=looks_findIn (M:=model prog w) X ha
 have f5:=F.typeOf_object_class
 have f6:=F.slot_gs_get.lookup
 have f7:=F.slot_gs_set.lookup
 repeat (any_goals (first |assumption |with_reducible refine L0.at ?_ |with_reducible refine L1.at ?_ |(with_reducible refine wpAny_loadPart_at hx ?_;rw[hc])|wp_step))
 refine GJ (K:=K) X hx hc hm ?_
 repeat (any_goals (first |assumption |wp_step))
theorem Dl {M:Model}{HX:Value}(X:K.In s.heap)(hx:s.heap.get? a=some o)(hc:o.cls = .ref C)(hb:mroIn K C (.type "BaseException")=some true)(hq:Q () s):
  wpAny M A (checkBuiltinCall "BaseException.__getattribute__" ⟨[.ref a,HX],[]⟩) Q E s:=by
 obtain⟨h,g,d,t,os⟩:=s
 have hk:builtinKind "BaseException.__getattribute__" = some .slot:=by decide +kernel
 have Js:splitId "BaseException.__getattribute__" = some ("BaseException","__getattribute__"):=by decide +kernel
 have ha:=F.args_bexc_ga (.ref a) HX
 have L0:=xty (M:=M) hx hc
 have L1:=looks_mroIn (M:=M) X hb
 simp only[checkBuiltinCall,hk,Js]
 refine ae ?_
 ·unfold isInstance
  repeat (first |with_reducible refine L0.at ?_ |with_reducible refine L1.at ?_ |wp_step)
  exact hq
theorem EF {tk:Tok}{R:Result->Shared->Prop}(X:K.In s.heap)(hx:s.heap.get? a=some o)(hc:o.cls = .ref C)(hm:mroIn K C (.type "object")=some true)(hb:mroIn K C (.type "BaseException")=some true)
  (ha:findIn K (.ref C) "__class__" = some (some (.builtin "object.__class__"))) (hq:R (.ok (.ret (.ref C))) s):
  codeAny (model prog w) A (.call (.builtin "BaseException.__getattribute__") ⟨[.ref a,.str "__class__" tk],[]⟩) R s:=
 codeAny_call_builtin (by decide +kernel) F.entry_bexc_ga (Dl X hx hc hb (Dk X hx hc hm ha hq))
theorem Iv {tk:Tok}{Q:Value->Shared->Prop}(X:K.In s.heap)(hx:s.heap.get? a=some o)(hc:o.cls = .ref C)(hm:mroIn K C (.type "object")=some true)(hb:mroIn K C (.type "BaseException")=some true)
  (ha:findIn K (.ref C) "__class__" = some (some (.builtin "object.__class__"))) (hg:findIn K (.ref C) "__getattribute__" = some (some (.builtin "BaseException.__getattribute__"))) (hn:findIn K (.ref C) "__getattr__" = some none)
  (hq:Q (.ref C) s):wpAny (model prog w) A (getAttrBy (.ref a) (.str "__class__" tk) false) Q E s:=by
 have X':=X
 have hx':=hx
 obtain⟨h,g,d,t,os⟩:=s
 have f3:=PySem.F.attr_ValueError.ga.bind (.ref a)
 have hx2:(Value.builtin "BaseException.__getattribute__" == Value.builtin "object.__getattribute__")=false:=by decide +kernel
 have hx1:(onTheHeap (Value.ref C)&&Value.builtin "BaseException.__getattribute__" == Value.builtin "object.__getattribute__")=false:=by rw[hx2];rfl
 have L0:=xty (M:=model prog w) hx hc
 have L1:=looks_findIn (M:=model prog w) X hg
 have L2:=looks_findIn (M:=model prog w) X hn
 repeat (any_goals (first |assumption |with_reducible refine L0.at ?_ |with_reducible refine L1.at ?_ |with_reducible refine L2.at ?_ |wp_step))
 refine EF (K:=K) X' hx' hc hm hb ha ?_
 repeat (any_goals (first |assumption |wp_step))
theorem EG {Q:Option Value->Shared->Prop}(X:K.In s.heap)(hx:s.heap.get? a=some o)(hc:o.cls = .ref C)(hm:mroIn K C (.type "object")=some true)(hb:mroIn K C (.type "BaseException")=some true)
  (ha:findIn K (.ref C) "__class__" = some (some (.builtin "object.__class__"))) (hg:findIn K (.ref C) "__getattribute__" = some (some (.builtin "BaseException.__getattribute__"))) (hn:findIn K (.ref C) "__getattr__" = some none)
  (hq:Q (some (.ref C)) {s with toks:=s.toks+1}):wpAny (model prog w) A (getAttr? (.ref a) "__class__") Q E s:=by
 have X':=X
 have hx':=hx
 obtain⟨h,g,d,t,os⟩:=s
 unfold getAttr? getAttrBy?
 repeat (any_goals (first |assumption |with_reducible apply Iv (K:=K) (s:=⟨h,g,d,t+1,os⟩) X' hx' hc hm hb ha hg hn |wp_step))
structure ExC (K:Frag)(C:Addr):Prop where
 obj:mroIn K C (.type "object")=some true
 bex:mroIn K C (.type "BaseException")=some true
 cls:findIn K (.ref C) "__class__" = some (some (.builtin "object.__class__"))
 ga:findIn K (.ref C) "__getattribute__" = some (some (.builtin "BaseException.__getattribute__"))
 gn:findIn K (.ref C) "__getattr__" = some none
 isc:(clsIn K C).isSome=true
noncomputable def XAt (a:Addr)(C:Addr)(h:Heap):Prop:=∃ o,h.get? a=some o/\o.cls = .ref C
theorem F4 (e:ExC K C):KitX K (.ref a) (.ref C) (XAt a C) where
 ty:=λ_ _ _ ⟨_,h1,h2⟩=>xty h1 h2
 it:=λ_ _ X _=>by
  have hC:=e.isc
  unfold clsIn at hC
  split at hC
  ·rename_i c' d' cd' sl' ho
   intro A' Q' E' s' k q
   unfold isType loadHead
   exact ae (wpAny_loadPart (k _ _ (X _ _ ho)) (ao q))
  ·cases hC
 ne:=λh tp dd its n sl X htp=>by
  have hC:=e.isc
  refine bQ.mpr λq=>?_
  have e':C=tp:=Value.ref.inj (cG.mp q)
  subst e'
  unfold clsIn at hC
  split at hC
  ·rename_i c' d' cd' sl' ho
   have z:=(X _ _ ho).symm.trans htp
   cases z
  ·cases hC
 ca:=λX ⟨_,h1,h2⟩ k=>EG X h1 h2 e.obj e.bex e.cls e.ga e.gn k
end
section
variable {P:Program}{w:World}{H H1:Hp}{h:Heap}{a:Addr}{o:HO}
theorem jv.some (x:jv P w H h a o):∃ u,h.get? a=Option.some u:=by
 cases o with
 |lst xs=>obtain⟨_,_,_,_,e⟩:=x;exact⟨_,e⟩
 |tup xs=>obtain⟨_,_,_,p⟩:=x;obtain⟨u,e,_⟩:=p;exact⟨u,e⟩
 |dK kvs=>obtain⟨_,_,_,_,o,_,_,e,_⟩:=x;exact⟨_,e⟩
 |dT kvs=>obtain⟨_,_,_,_,o,_,_,e,_⟩:=x;exact⟨_,e⟩
 |set S n=>obtain⟨o,_,_,_,e,_⟩:=x;exact⟨_,e⟩
 |ins C dx fs=>obtain⟨_,_,_,e,_⟩:=x;exact⟨_,e⟩
 |own y=>obtain⟨_,e⟩:=x;exact⟨_,e⟩
 |xd fs=>obtain⟨_,⟨_,_,_,e,_⟩,_⟩:=x;exact⟨_,e⟩
 |rng lo hi=>obtain⟨_,_,_,e⟩:=x;exact⟨_,e⟩
 |frz ob u=>obtain⟨e,_⟩:=x;exact⟨_,e⟩
 |tbl ps=>exact⟨_,(show h.get? a=Option.some _ from x)⟩
 |met f y=>exact⟨_,(show h.get? a=Option.some _ from x)⟩
 |ext φ=>obtain⟨_,⟨_,e⟩,_⟩:=x;exact⟨_,e⟩
theorem HOk.none_of (x:HOk P w H h)(e:h.get? a=Option.none):H a=Option.none:=by
 cases q:H a with
 |none=>rfl
 |some u=>obtain⟨v,z⟩:=(x a u q).some;rw[e]at z;cases z
end
structure Fl0 (P:Program)(w:World)(base:Heap)(l:List Env)(H H1:Hp)(h0 B h:Heap):Prop where
 bas:base.StaysIn B
 hok:HOk P w H1 B
 kp:∀ b o,h0.get? b=some o->H b=none->b∉frs l->B.get? b=some o
 thr:∀ b o,h0.get? b=some o->b∉frs l->∃ o',B.get? b=some o'
 un:Un (frs l) [] H H1 h0 h
theorem Fl0.step {P:Program}{w:World}{base:Heap}{l:List Env}{H H1:Hp}{h0 B h h':Heap}(x:Fl0 P w base l H H1 h0 B h)(st:B.StaysIn h')(ff:h.FunFrames B l)(ff':h'.FunFrames B l)(sm:h.UpToSlots h'):
  Fl0 P w base l H H1 h0 B h':=by
 refine⟨x.bas,x.hok,x.kp,x.thr,⟨λb o q n hb _=>st b o (x.kp b o q n hb),λb o q n hb _=>?_,x.un.free,λb o q _=>?_,x.un.q9,x.un.qR,x.un.ra⟩⟩
 ·obtain⟨sl,e⟩:=x.un.slot b o q n hb (by simp)
  obtain⟨_,o2,e2,nf⟩:=ff.mem hb
  rw[e]at e2;cases e2
  obtain⟨sl',e'⟩:=sm b _ e nf
  exact⟨sl',e'⟩
 ·by_cases hb:b∈frs l
  ·obtain⟨_,o2,e2,_⟩:=ff'.mem hb
   exact⟨o2,e2⟩
  ·obtain⟨o',e⟩:=x.thr b o q hb
   exact⟨o',st b o' e⟩
structure Fl (P:Program)(w:World)(base:Heap)(l:List Env)(H H1:Hp)(h0:Heap)(e C:Addr)(B h:Heap):Prop extends Fl0 P w base l H H1 h0 B h where
 fly:∃ a0,Heap.FlyingW B l e (.ref C) a0 h
noncomputable def CXr (P:Program)(w:World)(base:Heap):CXT:=λl H s E ev s'=>
 ∃ e C H1 B,ev = .ref e/\s'.os=s.os/\AllBare s'.gens/\Fl P w base l H H1 s.heap e C B s'.heap/\E (.ref C) (some e) H1
section
variable {X:Cx}{pins:List (Addr×Obj)}{σ:St}{H H1:Hp}{s s':Shared}{e C:Addr}{B:Heap}
theorem Fl.inv (x:Fl X.prog X.w X.base X.stack H H1 s.heap e C B s'.heap)(I:Inv X pins σ H s)(ho:s'.os=s.os)(hg:AllBare s'.gens):Inv X pins σ H1 s':=by
 obtain⟨a0,f⟩:=x.fly
 exact I.GF (ch:=[]) ho x.un (x.hok.kept f.1) hg (λb z=>absurd z (by simp))
theorem Fh {M:Model}{E:Value->Shared->Prop}{h':Heap}{vs:List Value}(I:Inv X pins σ H s)(hst:X.stack=X.env::X.outer)(hf:X.env.frame=some X.env.locals)(hex:X.ex = [])
  (hx:Heap.MadeExcOf s.heap h' e (.ref C) vs) (hQ:∀ B h'',Fl X.prog X.w X.base X.outer X.H₀ H X.s₀.heap e C B h''->Q () {s with heap:=h''}):
  wpAny M X.A (leaving X.env (.ref e)) Q E {s with heap:=h'} :=by
 have hfr:=I.ok.frames
 rw[hst]at hfr
 have Hr:=I.stack
 rw[hst]at Hr
 have hin:∀ env∈(X.env::X.outer),∀ b,env.frame=some b->b∈frs (X.env::X.outer):=λenv he b hb=>dY.mpr ⟨env,he,hb⟩
 have nb:∀ b,b≠X.env.locals->b∉X.fs->b∉frs (X.env::X.outer):=λb h1 h2 hb=>by
  unfold frs at hb
  rw[cj,hf]at hb
  rcases ay.mp hb with z |z
  ·exact h1 z
  ·exact h2 z
 have neL:∀ b o,X.s₀.heap.get? b=some o->b≠X.env.locals:=λb o e=>aD (aP (ar e) I.ok.above)
 refine wpAny_leaves_madeW (base:=hideAll s.heap (frs (X.env::X.outer))) hfr hf (λb o q=>of_hideAll _ q) (funFrames_hide Hr hin) hx λh'' t x1 x2 x3 x4=>?_
 have hok:HOk X.prog X.w H (hideAll s.heap (frs (X.env::X.outer))):=λb u q=>by
  refine(I.hok b u q).rf (λc v hc z=>hideAll_get _ z λhm=>?_) (λ_ z=>z) λ_ _ z=>z
  have hn:H c=none:=I.yu c (by rw[hst];exact hm)
  rcases hc with rfl |hc
  ·rw[hn]at q;cases q
  ·rw[hn]at hc;cases hc
 have z0:Fl0 X.prog X.w X.base X.outer X.H₀ H X.s₀.heap (hideAll s.heap (frs (X.env::X.outer))) h':=by
  have ub:Un X.fs [] X.H₀ H X.s₀.heap s.heap:=by have:=I.base;rw[hex]at this;exact this
  refine⟨λb o q=>hideAll_get _ (I.bk b o q) λhm=>?_,hok,λb o q n hb=>hideAll_get _ (ub.keep b o q n hb (by simp)) (nb b (neL b o q) hb),λb o q hb=>?_,ub.trans (Un.kept hx.keeps)⟩
  ·have:=(Hr.mem hm).1
   rw[q]at this;cases this
  ·obtain⟨o',e1⟩:=ub.there b o q (by simp)
   exact⟨o',hideAll_get _ e1 (nb b (neL b o q) hb)⟩
 have ff:h'.FunFrames (hideAll s.heap (frs (X.env::X.outer))) X.outer:=by
  obtain⟨_,_,z⟩:=(funFrames_hide Hr hin).of_keeps λb o hb _=>⟨o,hx.keeps b o hb,rfl⟩
  exact z
 exact hQ _ h'' ⟨z0.step x1.1 ff x1.2.2.1 x4,_,x1⟩
theorem Hb {M:Model}{E:Value->Shared->Prop}(I:Inv X pins σ H s)(hst:X.stack=X.env::X.outer)(hf:X.env.frame=some X.env.locals)(hex:X.ex = [])
  (ho:s'.os=s.os) (hg:AllBare s'.gens) (x:Fl X.prog X.w X.base X.stack H H1 s.heap e C B s'.heap) (hQ:∀ B h'',Fl X.prog X.w X.base X.outer X.H₀ H1 X.s₀.heap e C B h''->Q () {s' with heap:=h''}):
  wpAny M X.A (leaving X.env (.ref e)) Q E s':=by
 have J:=x.inv I ho hg
 have hfr:=I.ok.frames
 obtain⟨a0,f⟩:=x.fly
 have nb:∀ b,b≠X.env.locals->b∉X.fs->b∉frs X.stack:=λb h1 h2 hb=>(ay.mp (I.oH b hb)).elim h1 h2
 have neL:∀ b o,X.s₀.heap.get? b=some o->b≠X.env.locals:=λb o e=>aD (aP (ar e) I.ok.above)
 rw[hst]at hfr f
 have ub:Un X.fs [] X.H₀ H X.s₀.heap s.heap:=by have:=I.base;rw[hex]at this;exact this
 have uj:Un X.fs [] X.H₀ H1 X.s₀.heap s'.heap:=by have:=J.base;rw[hex]at this;exact this
 have z0:Fl0 X.prog X.w X.base X.outer X.H₀ H1 X.s₀.heap B s'.heap:=by
  refine⟨x.bas,x.hok,λb o q n hb=>x.kp b o (ub.keep b o q n hb (by simp)) (ub.free b o q n (by simp)) (nb b (neL b o q) hb),λb o q hb=>?_,uj⟩
  obtain⟨o',e1⟩:=ub.there b o q (by simp)
  exact x.thr b o' e1 (nb b (neL b o q) hb)
 have ff:s'.heap.FunFrames B X.outer:=f.2.2.1.2.2
 exact wpAny_leaves_onW hfr hf f λh'' x1 x2=>hQ B h'' ⟨z0.step x1.1 ff x1.2.2.1 x2,a0,x1⟩
end
section
variable {P:Program}{w:World}{K:PySem.W.Frag}{mg:Str->Option Value}{base:Heap}{N:List Str}{qual:Str}{scope:Scope}{f:Addr}{cd:Value}{A:Around}{outer:List Env}{s₀:Shared}{H₀:Hp}{E:XK}
noncomputable def Raises (X:Cx)(E:XK):Prop:=∀ (pins:List (Addr×Obj)) (σ:St) (H:Hp) (s:Shared) (h':Heap) (e C:Addr) (vs:List Value),Inv X pins σ H s->Heap.MadeExcOf s.heap h' e (.ref C) vs->E (.ref C) (some e) H->X.xe (.ref e) {s with heap:=h'}
theorem gh:Raises (xm (CXr P w base) P w K mg base N qual scope f cd A outer s₀ H₀ E) E:=λpins σ H s h' e C vs I hx q=>
 Fh I rfl rfl rfl hx λB h'' z=>⟨e,C,H,B,rfl,I.os,I.bare,z,q⟩
theorem fj:Passes (CXr P w base) (xm (CXr P w base) P w K mg base N qual scope f cd A outer s₀ H₀ E) E:=λpins σ H s e s' I hx=>by
 obtain⟨a,C,H1,B,rfl,ho,hg,z,q⟩:=hx
 exact Hb I rfl rfl rfl ho hg z λB' h'' z'=>⟨a,C,H1,B',rfl,ho.trans I.os,hg,z',q⟩
end
theorem Hz {K:Frag}{h:Heap}{C:Addr}{bmB:List Value}{newId:String}(X:K.In h)(q:excIn K C bmB newId=true):
  ∃ bm N nm qn bs hdct sn sub ab col dd k0 k1 k2 k3 k5 mN,h.get? C=some (excClassObj nm qn C N bs bm hdct sn sub ab col dd k0 k1 k2 k3 k5 newId)/\h.Ns N mN/\mN "__init__" = none/\OwnTail h bmB bm:=by
 unfold excIn at q
 split at q
 ·rename_i d1 c1 l1 lk
  split at q
  ·rename_i D1 tl j0 j1 j2 j3 nn j5 e1 e2
   simp only[bN,cG,Bool.not_eq_true']at q
   obtain⟨⟨⟨⟨⟨q1,q2⟩,q3⟩,q4⟩,q5⟩,q6⟩:=q
   subst q1 q2
   cases c1
   dsimp only at e1 q3 q5 q6
   subst e1 q3
   cases l1
   dsimp only at e2
   subst e2
   exact⟨tl,_,_,_,_,_,_,_,_,_,d1,j0,j1,j2,j3,j5,_,X _ _ lk,.of_isNs (isNs_of_in X q5),nsMap_none_of_in X q5 q6,tail_of_in X q4⟩
  ·cases q
 ·cases q
section
variable {X:Cx}{E:XK}{x:Str}{np kQ pos:Pos}{C:Addr}{bmB:List Value}{Bn newId Jp:String}{e₀:Expr}{rest:List Expr}{ta:TA}
noncomputable def IA (C:Addr)(E:XK)(ta:TA):TS:=λ_ σ H=>ta σ H λvs H1=>vs.length<=sizeLine/\∀ e,H1 e=none->E (.ref C) (some e) H1
theorem gx (hR:Raises X E)(hc:X.calm=true)(hg:Gl X x)(hm:X.mg x=some (.ref C))(q:excIn X.K C bmB newId=true)(FB:ExcBaseFacts Bn newId Jp bmB)(ha:PA X (e₀::rest) ta)
  (he:starEach (e₀::rest) X.env=(false,eval e₀ X.env)::starEach rest X.env:=by rfl) (hpl:(backTo kQ (starEach rest X.env)).any (·.1)=false:=by rfl) (hd:(x==("__debug__" :Str))=false:=by decide):
  PS X (.Raise (some (.Call (.Name x np) (e₀::rest) [] kQ)) none pos) (IA C E ta):=by
 intro pins s σ H D I h
 obtain⟨tl,N,nm,qn,bs,hdct,sn,sub,ab,col,dd,k0,k1,k2,k3,k5,mN,hC,hN,hni,T⟩:=Hz I.mod.kin q
 refine wpAny_Raise_call_subT (C:=C) (nm:=nm) (q:=qn) (N:=N) (bs:=bs) (bm:=tl) (hdct:=hdct) (sn:=sn) (sub:=sub) (ab:=ab) (col:=col) (dd:=dd) (k0:=k0) (k1:=k1) (k2:=k2) (k3:=k3) (k5:=k5)
  FB (mN:=mN) (T.hasType FB.hasBase) (I.ok.hd hc) (by rw[he];show(false||(backTo kQ (starEach rest X.env)).any (·.1))=false;rw[hpl];rfl) hni (qK I hg hm ⟨rfl,?_⟩ hd)
 have h2:=ha kQ pins s σ H _ I h
 rw[he]at h2 ⊢
 exact Calls.evalArgs_plain (aR h2 (λus s1 ⟨vs,H1,I1,r,z1,z2⟩=>⟨rfl,r.length ▸ z1,I1.bk _ _ hC,hN.keeps I1.bk,T.keeps I1.bk,λh' e hx=>hR pins σ H1 s1 h' e C us I1 hx (z2 e (I1.hok.none_of hx.new))⟩) λ_ _ y=>y)
end
noncomputable def BQ (e C:Addr):HO:=.ext (XAt e C)
theorem HA {P:Program}{w:World}{H:Hp}{h:Heap}{e C:Addr}{o:Obj}(ho:h.get? e=some o)(hc:o.cls = .ref C):jv P w H h e (BQ e C):=
 ⟨⟨o,ho,hc⟩,⟨o,ho⟩,λh1 h2 ⟨o',e1,e2⟩ k=>⟨o',k o' e1,e2⟩⟩
section
variable {X:Cx}{pins:List (Addr×Obj)}{σ:St}{H H1:Hp}{s s':Shared}{e C:Addr}{B:Heap}
theorem Inv.J0 {u:HO}(I:Inv X pins σ H s)(hn:H e=none)(h0:X.s₀.heap.get? e=none)(ho:jv X.prog X.w (upd H e u) s.heap e u)(nl:e≠X.env.locals)(nc:∀ x c,X.env.cells.lookup x=some c->c≠e)
  (np:∀ p∈X.pn++pins,p.1≠e):Inv X pins σ (upd H e u) s:=by
 have ne0:∀ b o,X.s₀.heap.get? b=some o->b≠e:=λb o q z=>by rw[z,h0]at q;cases q
 have neT:∀ b v,H b=some v->b≠e:=λb v q z=>by rw[z,hn]at q;cases q
 refine⟨I.ok,I.os,I.bare,⟨I.base.keep,I.base.slot,λb o q n hx=>?_,I.base.there,λb xs q=>?_,λb o v q=>?_,λb ps q=>?_⟩,I.loc,I.cell,?_,λx c q=>?_,λp hp=>?_,λb v q=>?_,I.len⟩
 ·rw[fw (ne0 b o q)];exact I.base.free b o q n hx
 ·have z:=I.base.q9 b xs q;rw[fw (neT _ _ z)];exact z
 ·have z:=I.base.qR b o v q;rw[fw (neT _ _ z)];exact z
 ·obtain⟨m,z⟩:=I.base.ra b ps q;exact⟨m,by rw[fw (neT _ _ z)];exact z⟩
 ·rw[fw (cB nl)];exact I.free
 ·rw[fw (nc x c q)];exact I.lJ x c q
 ·obtain⟨z1,z2,z3⟩:=I.pin p hp
  exact⟨z1,by rw[fw (np p hp)];exact z2,z3⟩
 ·by_cases hb:b=e
  ·subst hb;rw[eO]at q;cases q;exact ho
  ·rw[fw hb]at q
   exact(I.hok b v q).rf (λ_ _ _ z=>z) (λc z=>by rw[fw (neT _ _ z)];exact z) λc xs z=>by rw[fw (neT _ _ z)];exact z
theorem Fl.kept (x:Fl X.prog X.w X.base X.stack H H1 s.heap e C B s'.heap)(I:Inv X pins σ H s)(hex:X.ex = [])(ho:s'.os=s.os)(hg:AllBare s'.gens):Inv X pins σ (upd H1 e (BQ e C)) s':=by
 have J:=x.inv I ho hg
 obtain⟨a0,f⟩:=x.fly
 obtain⟨oe,vs,he,hc,hd,_⟩:=f.first
 have nB:B.get? e=none:=f.2.1
 have nfr:e∉frs X.stack:=λhm=>by
  obtain⟨_,o,z,nf⟩:=f.2.2.1.mem hm
  rw[he]at z;cases z;exact nf vs hd
 refine J.J0 (x.hok.none_of nB) ?_ (HA he hc) ?_ (λy c q z=>?_) λp hp z=>?_
 ·cases q:X.s₀.heap.get? e with
  |none=>rfl
  |some o=>
   obtain⟨o',z⟩:=I.base.there e o q (by rw[hex];simp)
   obtain⟨o2,z2⟩:=x.thr e o' z nfr
   rw[nB]at z2;cases z2
 ·rintro rfl
  obtain⟨m,⟨o,es,ep,z,hd',_⟩,_⟩:=J.loc
  rw[he]at z;cases z;rw[hd]at hd';cases hd'
 ·subst z
  obtain⟨v,o,z,hd'⟩:=J.cell y _ q
  rw[he]at z;cases z;rw[hd]at hd';cases hd'
 ·obtain⟨z1,z2,z3,z4,_⟩:=I.pin p hp
  have z5:=x.kp p.1 p.2 z1 z2 λhm=>(ay.mp (I.oH _ hm)).elim z3 z4
  rw[z,nB]at z5;cases z5
noncomputable abbrev Cx.qs (X:Cx)(e:Addr):Cx:={X with A:=X.A.mark (some (.ref e)),calm:=false,xe:=λ_ _=>False}
theorem Inv.qs (I:Inv X pins σ H s)(e:Addr):Inv (X.qs e) pins σ H s:=
 ⟨⟨I.ok.mod,I.ok.kind,I.ok.glob,I.ok.blt,I.ok.above,I.ok.inj,I.ok.has,I.ok.cab,(λz=>nomatch z),I.ok.frames,I.ok.stk,I.ok.exf,I.ok.bs,I.ok.bsz,I.ok.BA,I.ok.El,I.ok.su,I.ok.frf⟩,I.os,I.bare,I.base,I.loc,I.cell,I.free,I.lJ,I.pin,I.hok,I.len⟩
theorem Inv.uncaught (I:Inv (X.qs e) pins σ H s)(ok:X.Ok):Inv X pins σ H s:=⟨ok,I.os,I.bare,I.base,I.loc,I.cell,I.free,I.lJ,I.pin,I.hok,I.len⟩
theorem name_goes {M:Model}{A:Around}{E:Value->Shared->Prop}{j:Nat}{n:Str}{pos:Pos}(I:Inv X pins σ H s)(hN:X.N.Nodup)(hj:X.N[j]? = some n)(hk:X.env.scope.names.lookup n=some .local)
  (h:∀ s',Inv X pins (σ.set j none) H s'->Q () s'):wpAny M A (do bindName X.env n .none;unbindBehindTheSuite X.env n pos) Q E s:=by
 obtain⟨m,hn,hl⟩:=id I.loc
 have Gk:(X.env.scope.kind == .class||(X.env.scope.kind == .module&&X.env.locals !=X.env.globals))=false:=by rw[I.ok.kind];rfl
 have hjσ:j<σ.length:=by rw[I.len];exact(af.mp hj).1
 refine wpAny_nameGoes_keeps hk hn Gk λh' v hn' hs=>h _ ?_
 have ne0:∀ b o,X.s₀.heap.get? b=some o->h'.get? b=s.heap.get? b:=λb o e=>hs.2 b (aD (aP (ar e) I.ok.above))
 refine⟨I.ok,I.os,I.bare,⟨λb o e n hb hx=>(ne0 b o e).trans (I.base.keep b o e n hb hx),λb o e n hb hx=>?_,I.base.free,λb o e hx=>?_,I.base.q9,I.base.qR,I.base.ra⟩,⟨_,hn',λi y v' e1 e2 e3=>?_⟩,
  λy c e=>?_,I.free,I.lJ,λp hp=>?_,λb u e=>?_,by simpa using I.len⟩
 ·obtain⟨sl,z⟩:=I.base.slot b o e n hb hx
  exact⟨sl,(ne0 b o e).trans z⟩
 ·obtain⟨o',z⟩:=I.base.there b o e hx
  exact⟨o',(ne0 b o e).trans z⟩
 ·have hij:i≠j:=λz=>by subst z;rw[List.getElem?_set_self hjσ]at e2;cases e2
  rw[dA (cB hij)]at e2
  obtain⟨u',r',z⟩:=hl i y v' e1 e2 e3
  have ny:y≠n:=λz=>hij (vO hN e1 (z ▸ hj))
  refine⟨u',r',?_⟩
  rcases z with⟨k,z⟩|⟨k,c,z1,z2⟩
  ·exact .inl ⟨k,by show(if y=n then v else m y)=_;rw[ak ny];exact z⟩
  ·exact .inr ⟨k,c,z1,z2.sameBut hs (I.cne y c z1)⟩
 ·obtain⟨v',z⟩:=I.cell y c e
  exact⟨v',z.sameBut hs (I.cne y c e)⟩
 ·obtain⟨z1,z2,z3,z4,z5⟩:=I.pin p hp
  exact⟨(hs.2 p.1 z3).trans z1,z2,z3,z4,z5⟩
 ·refine(I.hok b u e).rf (λc v hc q=>(hs.2 c ?_).trans q) (λ_ q=>q) λ_ _ q=>q
  rintro rfl
  rcases hc with rfl |hc
  ·rw[I.free]at e;cases e
  ·rw[I.free]at hc;cases hc
end
theorem Iu {M:Model}{A:Around}{E:Value->Shared->Prop}{K:Frag}{s:Shared}{e C D:Addr}{oe:Obj}{Q:Bool->Shared->Prop}(X:K.In s.heap)(he:s.heap.get? e=some oe)(hc:oe.cls = .ref C)
  (hty:typeIn K (.ref D)=some (.type "type")) (Jz:(clsIn K D).isSome=true) (hb:mroIn K D (.type "BaseException")=some true) (hm:mroIn K C (.ref D)=some true) (hq:Q true s):
  wpAny M A (excMatches (.ref e) (.ref D)) Q E s:=by
 obtain⟨h,g,d,t,os⟩:=s
 have L0:=xty (M:=M) he hc
 have L1:=looks_mroIn (M:=M) X hb
 have L2:=looks_mroIn (M:=M) X hm
 have L3:=looks_typeIn (M:=M) X hty
 have f:=tc_notTuple
 unfold clsIn at Jz
 split at Jz
 ·rename_i c' d' cd' sl' ho
  have hD:=X _ _ ho
  unfold excMatches
  repeat (first |with_reducible refine L0.at ?_ |with_reducible refine L3.at ?_ |with_reducible refine L1.at ?_ |with_reducible refine L2.at ?_ |with_reducible refine wpAny_loadPart_at hD ?_ |wp_step)
  exact hq
 ·cases Jz
noncomputable def Dh (CX:CXT)(X:Cx)(E:St->XK):Prop:=∀ (pins:List (Addr×Obj)) (σ:St) (H:Hp) (s:Shared) (e:Value) (s':Shared),Inv X pins σ H s->CX X.stack H s (E σ) e s'->X.xe e s'
noncomputable abbrev Cx.sL (X:Cx)(pn:List (Addr×Obj))(W:Value->Shared->Prop):Cx:={X with pn:=X.pn++pn,xe:=W}
section
variable {X:Cx}{pins pn:List (Addr×Obj)}{σ:St}{H:Hp}{s:Shared}{W:Value->Shared->Prop}
theorem Inv.sL (I:Inv X pins σ H s)(W:Value->Shared->Prop):Inv (X.sL pins W) pins σ H s:=
 ⟨⟨I.ok.mod,I.ok.kind,I.ok.glob,I.ok.blt,I.ok.above,I.ok.inj,I.ok.has,I.ok.cab,I.ok.hd,I.ok.frames,I.ok.stk,I.ok.exf,I.ok.bs,I.ok.bsz,I.ok.BA,I.ok.El,I.ok.su,I.ok.frf⟩,I.os,I.bare,I.base,I.loc,I.cell,I.free,I.lJ,
  (λp hp=>I.pin p (by
   rcases aL.mp hp with z |z
   ·exact z
   ·exact aL.mpr (.inr z))),I.hok,I.len⟩
theorem Inv.zN (I:Inv (X.sL pn W) pins σ H s)(ok:X.Ok):Inv X pn σ H s:=
 ⟨ok,I.os,I.bare,I.base,I.loc,I.cell,I.free,I.lJ,(λp hp=>I.pin p (aL.mpr (.inl hp))),I.hok,I.len⟩
end
structure zL (K:Frag)(D C:Addr):Prop where
 ty:typeIn K (.ref D)=some (.type "type")
 isc:(clsIn K D).isSome=true
 bex:mroIn K D (.type "BaseException")=some true
 mro:mroIn K C (.ref D)=some true
noncomputable abbrev Ends.gone (D:Ends)(j:Nat):Ends:={nx:=λσ H=>D.nx (σ.set j none) H,rt:=D.rt,bk:=λσ H=>D.bk (σ.set j none) H,ct:=λσ H=>D.ct (σ.set j none) H}
noncomputable def Ld (K:Frag)(D:Addr)(j:Nat)(th:TS)(Z:Ends):St->XK:=λσ c a H=>∃ e C,a=some e/\c = .ref C/\zL K D C/\th (Z.gone j) (σ.set j (some (.ref e))) (upd H e (BQ e C))
noncomputable def Lv (K:Frag)(D:Addr)(j:Nat)(tb:(St->XK)->TS)(th:TS):TS:=λZ σ H=>tb (Ld K D j th Z) Z σ H
section
variable {X:Cx}{body B4:List Stmt}{b₀:Stmt}{x n:Str}{np Hu pos:Pos}{D:Addr}{j:Nat}{tb:(St->XK)->TS}{th:TS}
theorem IK (hst:X.stack=X.env::X.outer)(hfr:X.env.frame=some X.env.locals)(hex:X.ex = [])(hN:X.N.Nodup)(hj:X.N[j]? = some n)(hn:X.env.scope.names.lookup n=some .local)(hg:Gl X x)(hm:X.mg x=some (.ref D))
  (hb:∀ pn W (E:St->XK),Dh (CXr X.prog X.w X.base) (X.sL pn W) E->PSs (X.sL pn W) body (tb E)) (hs:∀ e,PSs (X.qs e) (b₀::B4) th) (hd:(x==("__debug__" :Str))=false:=by decide):
  PS X (.Try body [.ExceptHandler (some (.Name x np)) (some n) (b₀::B4) Hu] [] [] pos) (Lv X.K D j tb th):=by
 intro pins s σ H Z I h
 refine wpAny_Try_except ?_
 refine aR (hb pins (λe s₁=>wpAny (model X.prog X.w) X.A (noteFrame e X.env) (λ_ s₂=>wpAny (model X.prog X.w) X.A (setFlight e none) (λ_ s₃=>wpAny (model X.prog X.w) X.A (handleBy e X.env [.ExceptHandler (some (.Name x np)) (some n) (b₀::B4) Hu]) (SP X pins Z) X.xe s₃) X.xe s₂) X.xe s₁)
  (Ld X.K D j th Z) ?_ pins s σ H Z (I.sL _) h) (λf s1 q=>?_) λe s1 q=>q
 ·intro tW σ1 H1 s1 ev s2 I1' hx
  have I1:Inv X pins σ1 H1 s1:=I1'.zN I.ok
  obtain⟨e,C',H2,B,rfl,ho,Ie,x0,e',C,z1,z2,cat,q⟩:=hx
  obtain rfl:e=e':=aZ z1
  obtain rfl:C'=C:=by injection z2
  have x0:Fl X.prog X.w X.base X.stack H1 H2 s1.heap e C' B s2.heap:=x0
  obtain⟨a0,f0⟩:=x0.fly
  have K5:=I.ok.frames
  rw[hst]at K5
  have f0':=f0
  rw[hst]at f0'
  show wpAny (model X.prog X.w) X.A (noteFrame (.ref e) X.env) _ _ s2
  refine wpAny_looks_onW K5 hfr f0' λh4 hh4 sm4=>?_
  refine wpAny_landsW hh4 λh5 f5 sm5=>?_
  have f5':Heap.FlyingW B X.stack e (.ref C') a0 h5:=by rw[hst];exact f5
  have x5:Fl X.prog X.w X.base X.stack H1 H2 s1.heap e C' B h5:=⟨x0.toFl0.step f5'.1 f0.2.2.1 f5'.2.2.1 (sm4.trans sm5),a0,f5'⟩
  have I5:Inv X pins σ1 (upd H2 e (BQ e C')) {s2 with heap:=h5} :=Fl.kept (s':={s2 with heap:=h5}) x5 I1 hex ho Ie
  obtain⟨oe,he,hec⟩:=f5'.there
  refine wpAny_handleBy_cons (codeAny_handlers_test (qK (X:=X.qs e) (I5.qs e) hg hm ?_ hd)) (by intro q;cases q)
  refine Iu (K:=X.K) I5.kIn he hec cat.ty cat.isc cat.bex cat.mro (codeAny_handlers_suite_as ?_)
  refine lands_againW f5' λh6 f6 sm6=>?_
  have x6:Fl X.prog X.w X.base X.stack H1 H2 s1.heap e C' B h6:=⟨x5.toFl0.step f6.1 f5'.2.2.1 f6.2.2.1 sm6,a0,f6⟩
  have I6:Inv X pins σ1 (upd H2 e (BQ e C')) {s2 with heap:=h6} :=Fl.kept (s':={s2 with heap:=h6}) x6 I1 hex ho Ie
  refine uW (X:=X.qs e) (I6.qs e) hN hj (.inl hn) (v:=.ref e) rfl (λs7 I7=>?_) (.inr hn)
  refine aR (hs e pins s7 _ _ (Z.gone j) I7 q) (λf s8 q8=>?_) λ_ _ z=>False.elim z
  cases f with
  |next=>obtain⟨σ8,H8,I8,q8⟩:=q8;exact name_goes (I8.uncaught I.ok) hN hj hn λs9 I9=>⟨_,H8,I9,q8⟩
  |brk=>obtain⟨σ8,H8,I8,q8⟩:=q8;exact name_goes (I8.uncaught I.ok) hN hj hn λs9 I9=>⟨_,H8,I9,q8⟩
  |cont=>obtain⟨σ8,H8,I8,q8⟩:=q8;exact name_goes (I8.uncaught I.ok) hN hj hn λs9 I9=>⟨_,H8,I9,q8⟩
  |ret u=>obtain⟨v8,σ8,H8,I8,r8,q8⟩:=q8;exact name_goes (I8.uncaught I.ok) hN hj hn λs9 I9=>⟨v8,_,H8,I9,r8,q8⟩
 ·cases f with
  |next=>obtain⟨σ8,H8,I8,q8⟩:=q;exact wpAny_execs_nil ⟨σ8,H8,I8.zN I.ok,q8⟩
  |brk=>obtain⟨σ8,H8,I8,q8⟩:=q;exact⟨σ8,H8,I8.zN I.ok,q8⟩
  |cont=>obtain⟨σ8,H8,I8,q8⟩:=q;exact⟨σ8,H8,I8.zN I.ok,q8⟩
  |ret u=>obtain⟨v8,σ8,H8,I8,r8,q8⟩:=q;exact⟨v8,σ8,H8,I8.zN I.ok,r8,q8⟩
end
theorem iC {X:Cx} :jY X (.builtin "isinstance") (λxs H Q=>∃ e C c cv b,xs = [.ref e,c]/\H e=some (BQ e C)/\ExC X.K C/\RelV c cv/\(∀ cv',RelV c cv'->cv'=cv)/\kitOne X.K (.ref C) cv=some b/\Q (.bl b) H):=by
 intro pins s σ H vs us Q I r h
 obtain⟨e,C,c,cv,b,rfl,he,ex,_,rc,hk,q⟩:=h
 cases r with
 |cons r1 r2=>
  cases r2 with
  |cons r2 r3=>
   cases r3
   obtain rfl:=(show _=Value.ref e from r1)
   rw[rc _ r2]
   obtain⟨p,_,_⟩:=(show jv X.prog X.w H s.heap e (.ext (XAt e C)) from I.hok e _ he)
   exact kia_one (F4 ex) I.kIn p hk (λz=>nomatch z) λtk=>⟨.bl b,H,I.tok tk,rfl,q⟩
open TL
section
variable {P:Program}{w:World}{K:PySem.W.Frag}{mg:Str->Option Value}{base:Heap}
theorem Fun.okX {x qual:Str}{st:Stmt}{f:Addr}{fd:FuncData}{N ps:List Str}{k:Nat}{sp:Sp}(F:Fun K x qual st f fd)(S:fh N ps (eT st))(len:∀ vs H Q E,sp vs H Q E->vs.length=ps.length)
  (AO:∀ (cdv:Value) (A:Around) (outer:List Env) (s:Shared) (H:Hp) (vs:List V) (Q:VK) (E:XK),kS k (A.deeper (envOfC qual (eT st) s.heap.objs.size f cdv))->sp vs H Q E->
   ∃ t,PSs (xm (CXr P w base) P w K mg base N qual (eT st) f cdv A outer s H E) (j4 st) t/\t {nx:=λ_ H'=>Q .non H',rt:=Q} (start N vs) H):eX P w K mg base (CXr P w base) (k+1) f fd ps sp:=by
 obtain⟨oc,od,kV,doc,pm,an,cdv,ct,osl,rfl,lk,hcd⟩:=F.ex
 exact Ij lk hcd S len λA outer s H vs Q E hr hsp=>AO cdv A outer s H vs Q E hr hsp
end
abbrev bmV:List Value:=[.type "ValueError",.type "Exception",.type "BaseException",.type "object"]
structure Xc (K:Frag)(mg:Str->Option Value)(x:Str)(C:Addr):Prop where
 m:mg x=some (.ref C)
 q:excIn K C bmV "ValueError.__new__" = true
 e:ExC K C
structure Xs (K:Frag)(mg:Str->Option Value)(D c1 c2 c3 c4 c5 c6 c7:Addr):Prop where
 VE:mg "ValueError" = none
 EA:Xc K mg "TurnError" D
 jq:Xc K mg "NoLine" c1
 iK:Xc K mg "NoTrain" c2
 tN:Xc K mg "NoMove" c3
 uS:Xc K mg "NoPiece" c4
 Df:Xc K mg "TooMany" c5
 kO:Xc K mg "NoText" c6
 Dj:Xc K mg "NoRow" c7
 cat:∀ c∈ [c1,c2,c3,c4,c5,c6,c7],zL K D c
 val:∀ c∈ [c1,c2,c3,c4,c5,c6,c7],kitOne K (.ref c) (.type "ValueError")=some true
 eq:∀ c∈ [c1,c2,c3,c4,c5,c6,c7],∀ d∈ [c1,c2,c3,c4,c5,c6,c7],kitOne K (.ref c) (.ref d)=some (decide (c=d))
 nd:[c1,c2,c3,c4,c5,c6,c7].Nodup
theorem uD:bootBuiltins "ValueError" = some (.type "ValueError"):= PyProof.Rows.Boot.«ValueError»
theorem Vals.bls:∀ {bs:List Bool}{its:List Value},Vals (bs.map V.bl) its->its=bs.map Value.bool
 |[],_,.nil=>rfl
 |b::bs,_,.cons r t=>by rw[Vals.bls t,(show _=Value.bool b from r)];rfl
section
variable {X:Cx}
noncomputable def G9:V->List V->Hp->VK->Prop:=λx vs H Q=>∃ (l:Addr) (bs:List Bool) (c:Bool),x = .ref l/\vs = [.bl c]/\H l=some (.lst (bs.map V.bl))/\Q (.int (bs.count c:Nat)) H
noncomputable def vb (c:Bool):Value->Bool
 |.bool b=>b==c
 |_=>false
theorem FP:MtM X "list.count" G9:=by
 intro pins s σ H x vs v us Q I rx rv h
 obtain⟨l,bs,c,rfl,rfl,hH,q⟩:=h
 cases rx
 cases rv with
 |cons r1 r2=>
  cases r2
  obtain rfl:=(show _=Value.bool c from r1)
  obtain⟨z,its,n,r,hl,e⟩:=I.DX hH
  have hi:=r.bls
  subst hi
  refine dF PySem.F.slot_list_count ⟨_,e,rfl⟩ PySem.F.entry_list_count (PySem.F.args_list_count_2 _ _) (SeqAt.list_countAt l _ n none #[] (.bool c) (vb c)) ⟨e,λy hy=>?_,?_⟩
  ·rw[List.mem_toArray]at hy
   obtain⟨b,_,rfl⟩:=aA.mp hy
   exact SeqAt.EqAt.bool_bool b c
  ·have e1:((bs.map Value.bool).toArray.toList.countP (vb c))=bs.count c:=by
    simp only[bR]
    rw[List.countP_map]
    rfl
   rw[e1]
   exact⟨.int _,H,I.tok _,⟨_,rfl⟩,q⟩
noncomputable def G8:V->List V->Hp->VK->Prop:=λx vs H Q=>∃ (l:Addr) (bs:List Bool) (c:Bool) (j:Nat),x = .ref l/\vs = [.bl c]/\H l=some (.lst (bs.map V.bl))/\bs[j]? = some c/\(∀ m,m<j->bs[m]? = some (!c))/\Q (.int (j:Nat)) H
theorem FO:MtM X "list.index" G8:=by
 intro pins s σ H x vs v us Q I rx rv h
 obtain⟨l,bs,c,j,rfl,rfl,hH,hj,hno,q⟩:=h
 cases rx
 cases rv with
 |cons r1 r2=>
  cases r2
  obtain rfl:=(show _=Value.bool c from r1)
  obtain⟨z,its,n,r,hl,e⟩:=I.DX hH
  have hi:=r.bls
  subst hi
  have hjl:j<bs.length:=(af.mp hj).1
  have hjs:j<(bs.map Value.bool).toArray.size:=by simpa using hjl
  have h63:(sizeLine:Nat)<2 ^ 62:=by rw[aE];decide
  have z':bs.length<=sizeLine:=by simpa using z
  refine dF PySem.F.slot_list_index ⟨_,e,rfl⟩ PySem.F.entry_list_index (PySem.F.args_list_index_2 _ _) (SeqAt.list_indexAt l _ n none #[] (.bool c) (vb c) j hjs (by omega) ?_ λm hm hmj=>?_) ⟨e,λy hy=>?_,?_⟩
  ·have:bs[j]=c:=(af.mp hj).2
   simp[vb,this]
  ·have hm':=hno m hmj
   have:bs[m]'(by omega) = !c:=(af.mp hm').2
   simp[vb,this]
  ·rw[List.mem_toArray]at hy
   obtain⟨b,_,rfl⟩:=aA.mp hy
   exact SeqAt.EqAt.bool_bool b c
  ·exact⟨.int _,H,I.tok _,⟨_,rfl⟩,q⟩
end
structure mY (K:Frag)(x:Str)(C:Addr):Prop where
 b:nsIn K mainGlobals x=some (some (.ref C))
 q:excIn K C bmV "ValueError.__new__" = true
 o:mroIn K C (.type "object")=some true
 p:mroIn K C (.type "BaseException")=some true
 r:findIn K (.ref C) "__class__" = some (some (.builtin "object.__class__"))
 g:findIn K (.ref C) "__getattribute__" = some (some (.builtin "BaseException.__getattribute__"))
 h:findIn K (.ref C) "__getattr__" = some none
 i:isClsIn K C=true
 t:typeIn K (.ref C)=some (.type "type")
structure rB (K:Frag)(D C:Addr):Prop where
 m:mroIn K C (.ref D)=some true
 v:subIn K (.ref C) (.type "ValueError")=some true
structure sD (K:Frag)(c d1 d2 d3 d4 d5 d6:Addr):Prop where
 e1:subIn K (.ref c) (.ref d1)=some false
 e2:subIn K (.ref c) (.ref d2)=some false
 e3:subIn K (.ref c) (.ref d3)=some false
 e4:subIn K (.ref c) (.ref d4)=some false
 e5:subIn K (.ref c) (.ref d5)=some false
 e6:subIn K (.ref c) (.ref d6)=some false
section
variable {K:Frag}{h:Heap}{mg:Str->Option Value}{x:Str}{C D:Addr}
theorem mY.isc (a:mY K x C):(clsIn K C).isSome=true:=by
 have:=a.i
 unfold isClsIn at this
 exact this
theorem mY.ex (a:mY K x C):ExC K C:=⟨a.o,a.p,a.r,a.g,a.h,a.isc⟩
theorem mY.xc (a:mY K x C)(X:K.In h)(G:h.Ns mainGlobals mg):Xc K mg x C:=⟨mg_of X G a.b,a.q,a.ex⟩
theorem rq {y:Str}{d:Addr}(a:mY K y d)(hne:C≠d)(e:subIn K (.ref C) (.ref d)=some false):kitOne K (.ref C) (.ref d)=some (decide (C=d)):=by
 have h1:(Value.ref C==Value.ref d)=false:=bQ.mpr λz=>hne (Value.ref.inj (cG.mp z))
 unfold kitOne kitCls
 rw[h1,ak (by decide)]
 dsimp only
 rw[a.isc,a.t,av (by rfl),e,bu hne]
theorem Ji:kitOne K (.ref C) (.ref C)=some (decide (C=C)):=by
 unfold kitOne
 rw[av (dj _),cP rfl]
theorem pb (e:subIn K (.ref C) (.type "ValueError")=some true):kitOne K (.ref C) (.type "ValueError")=some true:=by
 unfold kitOne kitCls
 rw[ak (by intro z;cases cG.mp z)]
 dsimp only
 rw[av (by decide +kernel),e]
variable {c1 c2 c3 c4 c5 c6 c7:Addr}
theorem JV (X:K.In h)(G:h.Ns mainGlobals mg)(ve:nsIn K mainGlobals "ValueError" = some none)(b0:mY K "TurnError" D)(b1:mY K "NoLine" c1)(b2:mY K "NoTrain" c2)(b3:mY K "NoMove" c3)(b4:mY K "NoPiece" c4)
  (b5:mY K "TooMany" c5) (b6:mY K "NoText" c6) (b7:mY K "NoRow" c7) (d1:rB K D c1) (d2:rB K D c2) (d3:rB K D c3) (d4:rB K D c4) (d5:rB K D c5) (d6:rB K D c6) (d7:rB K D c7)
  (e1:sD K c1 c2 c3 c4 c5 c6 c7) (e2:sD K c2 c1 c3 c4 c5 c6 c7) (e3:sD K c3 c1 c2 c4 c5 c6 c7) (e4:sD K c4 c1 c2 c3 c5 c6 c7) (e5:sD K c5 c1 c2 c3 c4 c6 c7) (e6:sD K c6 c1 c2 c3 c4 c5 c7) (e7:sD K c7 c1 c2 c3 c4 c5 c6)
  (nd:[c1,c2,c3,c4,c5,c6,c7].Nodup):Xs K mg D c1 c2 c3 c4 c5 c6 c7:=by
 have ct:∀ {c:Addr},rB K D c->zL K D c:=λd=>⟨b0.t,b0.isc,b0.p,d.m⟩
 refine⟨mg_none_of X G ve,b0.xc X G,b1.xc X G,b2.xc X G,b3.xc X G,b4.xc X G,b5.xc X G,b6.xc X G,b7.xc X G,λc hc=>?_,λc hc=>?_,λc hc d hd=>?_,nd⟩
 ·simp only[ay,aW,b9]at hc
  rcases hc with rfl |rfl |rfl |rfl |rfl |rfl |rfl
  ·exact ct d1
  ·exact ct d2
  ·exact ct d3
  ·exact ct d4
  ·exact ct d5
  ·exact ct d6
  ·exact ct d7
 ·simp only[ay,aW,b9]at hc
  rcases hc with rfl |rfl |rfl |rfl |rfl |rfl |rfl
  ·exact pb d1.v
  ·exact pb d2.v
  ·exact pb d3.v
  ·exact pb d4.v
  ·exact pb d5.v
  ·exact pb d6.v
  ·exact pb d7.v
 ·have hcd:c=d\/c≠d:=by by_cases h:c=d;exact .inl h;exact .inr h
  rcases hcd with rfl |hne
  ·exact Ji
  ·simp only[ay,aW,b9]at hc hd
   have ee:subIn K (.ref c) (.ref d)=some false:=by
    rcases hc with rfl |rfl |rfl |rfl |rfl |rfl |rfl<;>rcases hd with rfl |rfl |rfl |rfl |rfl |rfl |rfl<;>
     first |exact absurd rfl hne |exact e1.e1 |exact e1.e2 |exact e1.e3 |exact e1.e4 |exact e1.e5 |exact e1.e6 |exact e2.e1 |exact e2.e2 |exact e2.e3 |exact e2.e4 |exact e2.e5 |exact e2.e6 |exact e3.e1 |exact e3.e2 |exact e3.e3 |exact e3.e4 |exact e3.e5 |exact e3.e6 |exact e4.e1 |exact e4.e2 |exact e4.e3 |exact e4.e4 |exact e4.e5 |exact e4.e6 |exact e5.e1 |exact e5.e2 |exact e5.e3 |exact e5.e4 |exact e5.e5 |exact e5.e6 |exact e6.e1 |exact e6.e2 |exact e6.e3 |exact e6.e4 |exact e6.e5 |exact e6.e6 |exact e7.e1 |exact e7.e2 |exact e7.e3 |exact e7.e4 |exact e7.e5 |exact e7.e6
   rcases hd with rfl |rfl |rfl |rfl |rfl |rfl |rfl
   ·exact rq b1 hne ee
   ·exact rq b2 hne ee
   ·exact rq b3 hne ee
   ·exact rq b4 hne ee
   ·exact rq b5 hne ee
   ·exact rq b6 hne ee
   ·exact rq b7 hne ee
end
end L2
namespace TL
open PySem PySem.Spec PyProof.Rows L2
structure Bm (mg:Str->Option Value):Prop extends Bl mg where
 zip:mg "zip" = none
 sum:mg "sum" = none
 all:mg "all" = none
 set:mg "set" = none
 tuple:mg "tuple" = none
 abs:mg "abs" = none
 bool:mg "bool" = none
 dict:mg "dict" = none
 str:mg "str" = none
variable {H:Hp}
theorem Inv.GP {X:Cx}{pins:List (Addr×Obj)}{σ:St}{s:Shared}{h':Heap}{t':Nat}{ch:List Addr}(I:Inv X pins σ H s)(hf:∀ b∈ch,nU X pins H b)
  (keep:∀ b o,b∉ch->s.heap.get? b=some o->h'.get? b=some o):Inv X pins σ H {s with heap:=h',toks:=t'} :=by
 have nch:∀ b u,H b=some u->b∉ch:=λb u q z=>by rw[(hf b z).1]at q;cases q
 refine I.step (g':=s.gens) (d':=s.drawn) (ch:=ch) (λb hb=>?_) (λb o _ _ hc q _=>keep b o hc q) (λb o _ _ hc q _=>⟨o.slots,keep b o hc q⟩) (λ_ _ _ _ n=>n)
  (λb o hc q=>⟨o,keep b o hc q⟩) (λ_ _ e=>e) (λ_ _ _ e=>e) (λb ps e=>⟨#[],by rw[e];simp⟩) (λm hm=>?_) (λb u q=>?_) I.bare
 ·obtain⟨f0,f1,f2,f3,f4,f5⟩:=hf b hb
  exact⟨f3,f1,f4,f5⟩
 ·obtain⟨o,es,ep,ho,r⟩:=hm
  exact⟨o,es,ep,keep _ o (λz=>(hf _ z).2.1 rfl) ho,r⟩
 ·refine(I.hok b u q).rf (λc v hc q'=>keep c v ?_ q') (λc z=>z) λc ys z=>z
  rcases hc with z |z
  ·rw[z];exact nch b u q
  ·exact nch c _ z
noncomputable def Itz (K:PySem.W.Frag)(a b:Addr):It:=
 ⟨λi H=>∃ xs ys x y,SqL K H a xs/\SqL K H b ys/\xs[i]? = some x/\ys[i]? = some y,
  λi H v H'=>∃ p,H p=none/\v = .ref p/\∀ xs ys x y,SqL K H a xs->SqL K H b ys->xs[i]? = some x->ys[i]? = some y->H'=upd H p (.tup [x,y]),
  λi H=>∃ xs ys,SqL K H a xs/\SqL K H b ys/\(xs.length<=i\/ys.length<=i)⟩
variable {K:PySem.W.Frag}
theorem EJ {P:Program}{w:World}{es:List Expr}{x1:Nat}{pt:Pos}{a b z TI TO i1 i2:Addr}(D:ZipApart z TI TO i1 i2 a b):
  Turn P w K (.Tuple es x1 pt) (Itz K a b) [z,TI,TO,i1,i2] z (λi h=>IsZip h z TI TO .none/\IsPair h TI (.ref i1) (.ref i2)/\(∃ u v,IsPair h TO u v)/\h.IsListIter i1 a i/\h.IsListIter i2 b i) where
 mem:=by simp
 obj:=λi h st c hc=>by
  obtain⟨hz,h1,⟨u,v,h2⟩,h3,h4⟩:=st
  obtain⟨o3,q3,_,d3⟩:=h3
  obtain⟨o4,q4,_,d4⟩:=h4
  simp only[ay,aW,b9]at hc
  rcases hc with rfl |rfl |rfl |rfl |rfl
  ·exact⟨_,hz,λv z=>by cases z⟩
  ·exact⟨_,h1,λv z=>by cases z⟩
  ·exact⟨_,h2,λv z=>by cases z⟩
  ·exact⟨_,q3,λv z=>by rw[d3]at z;cases z⟩
  ·exact⟨_,q4,λv z=>by rw[d4]at z;cases z⟩
 keep:=λi h h' ⟨hz,h1,⟨u,v,h2⟩,h3,h4⟩ k=>⟨k z (by simp) _ hz,k TI (by simp) _ h1,⟨u,v,k TO (by simp) _ h2⟩,h3.at λo q=>k i1 (by simp) o q,h4.at λo q=>k i2 (by simp) o q⟩
 item:=by
  intro X hP hw hK hc i pins s σ H E I hf st hg
  subst hP hw hK
  obtain⟨hz,h1,⟨u0,v0,h2⟩,h3,h4⟩:=st
  obtain⟨xs,ys,x,y,hx,hy,ex,ey⟩:=hg
  obtain⟨its,rv,p,hzx⟩:=I.list hx
  obtain⟨jts,rw',p',hzy⟩:=I.list hy
  obtain⟨u,hu,ru⟩:=rv.get ex
  obtain⟨v,hv,rv'⟩:=rw'.get ey
  refine wpAny_pyNext_zip_item D hz h1 h2 h3 h4 p.isList p'.isList (x:=u) (y:=v) (by simpa using hu) (by simpa using hv) λh' a1 a2 a3 a4 a5 a6 hk=>?_
  refine⟨_,rfl,?_⟩
  refine wpAny_letOwnedTupleGo_zip (s:={s with heap:=h'}) a1 λh'' m1 m2=>?_
  have lt:∀ {c o},s.heap.get? c=some o->s.heap.objs.size≠c:=λe=>Nat.ne_of_gt (ar e)
  have keep:∀ b o,b∉ [z,TI,TO,i1,i2]->s.heap.get? b=some o->h''.get? b=some o:=λb o hb q=>m2.extBut b o (λz=>hb (by simp[z])) (hk b o (λz=>hb (by simp[z])) (λz=>hb (by simp[z])) (λz=>hb (by simp[z])) (λz=>hb (by simp[z])) q)
  have ht:h''.get? s.heap.objs.size=some {cls:=.type "tuple",data:=.seq [u,v].toArray} :=m2.extBut _ _ (lt hz) a5
  have J1:Inv X pins σ (upd H s.heap.objs.size (.tup [x,y])) {s with heap:=h'',toks:=s.toks} :=Inv.Dr I hf keep (.cons ru (.cons rv' .nil)) (by show 2<=sizeLine;decide) ht
  have hn:H s.heap.objs.size=none:=I.fresh
  refine⟨.ref s.heap.objs.size,_,J1,rfl,⟨_,hn,rfl,λxs' ys' x' y' q1 q2 q3 q4=>?_⟩,⟨m1,?_,⟨_,_,m2.extBut _ _ D.TOz a2⟩,a3.extBut m2.extBut D.i1z,a4.extBut m2.extBut D.i2z⟩,λc hb=>?_⟩
  ·have e1:=I.qb q1 hx
   have e2:=I.qb q2 hy
   subst e1 e2
   rw[ex]at q3
   rw[ey]at q4
   cases q3
   cases q4
   rfl
  ·exact m2.extBut _ _ D.TIz (hk _ _ D.TIz D.TITO D.TIi1 D.TIi2 h1)
  ·have q:∃ o,s.heap.get? c=some o:=by
    obtain⟨o3,q3,_,d3⟩:=h3
    obtain⟨o4,q4,_,d4⟩:=h4
    have hb':=hb
    simp only[ay,aW,b9]at hb'
    rcases hb' with rfl |rfl |rfl |rfl |rfl
    ·exact⟨_,hz⟩
    ·exact⟨_,h1⟩
    ·exact⟨_,h2⟩
    ·exact⟨_,q3⟩
    ·exact⟨_,q4⟩
   obtain⟨o,q⟩:=q
   rw[fw (aD (ar q))]
   exact(hf c hb).1
 done:=by
  intro X hP hw hK hc i pins s σ H E I hf st hg
  subst hP hw hK
  obtain⟨hz,h1,⟨u0,v0,h2⟩,h3,h4⟩:=st
  obtain⟨xs,ys,hx,hy,e⟩:=hg
  obtain⟨its,rv,p,hzx⟩:=I.list hx
  obtain⟨jts,rw',p',hzy⟩:=I.list hy
  have l1:=rv.length
  have l2:=rw'.length
  refine wpAny_pyNext_zip_end (I.ok.hd hc) D hz h1 h2 h3 h4 p.isList p'.isList ?_ λh' hk=>⟨rfl,Inv.GP (t':=s.toks) I hf λb o hb q=>hk b o (λz=>hb (by simp[z])) (λz=>hb (by simp[z])) (λz=>hb (by simp[z])) (λz=>hb (by simp[z])) q⟩
  rcases e with e |e
  ·left;simp;omega
  ·right;simp;omega
 self:=λ_ _ _ _ _ ⟨hz,_⟩ h=>wpAny_pyIter_zip hz h
section
variable {X:Cx}
noncomputable def R6 (K:PySem.W.Frag)(ta:TA):TI:=λσ H R=>ta σ H λvs H1=>∃ a b,vs = [.ref a,.ref b]/\(∃ xs,SqL K H1 a xs)/\(∃ ys,SqL K H1 b ys)/\R (Itz K a b) H1
theorem Fp {a b:Expr}{ta:TA}{p pos:Pos}{es:List Expr}{x1:Nat}{pt:Pos}(hg:Gl X "zip")(hm:X.mg "zip" = none)(ha:PA X [a,b] ta)(hs:starEach [a,b] X.env = [(false,eval a X.env),(false,eval b X.env)]:=by rfl)(hs2:starEach [b] X.env = [(false,eval b X.env)]:=by rfl):
  PI X (.Tuple es x1 pt) (.Call (.Name "zip" p) [a,b] [] pos) (R6 X.K ta):=by
 intro pins s σ H R I h
 refine Call_ (rp I hg hm boot_zip (cL (thn (ha pos pins s σ H _ I h) λus s1 ⟨vs,H1,I1,r1,q1⟩=>?_) (by rw[hs,hs2]) (by rw[hs2];rfl)))
 obtain⟨a,b,e,⟨xs,hx⟩,⟨ys,hy⟩,q⟩:=q1
 subst e
 obtain⟨u,v,rfl,ru,rv⟩:=vals2 r1
 cases ru
 cases rv
 obtain⟨its,rv,p,hzx⟩:=I1.list hx
 obtain⟨jts,rw',p',hzy⟩:=I1.list hy
 have la:a<s1.heap.objs.size:=by obtain⟨o,n,e,_⟩:=p;exact ar e
 have lb:b<s1.heap.objs.size:=by obtain⟨o,n,e,_⟩:=p';exact ar e
 refine call_zip_2 p.isList p'.isList λh' k1 k2 k3 k4 k5 k6 k7=>?_
 refine wpAny_pyIter_zip (s:={s1 with heap:=h'}) k1 ?_
 have D:ZipApart (s1.heap.objs.size+4) (s1.heap.objs.size+2) (s1.heap.objs.size+3) s1.heap.objs.size (s1.heap.objs.size+1) a b:=by
  generalize s1.heap.objs.size=z at la lb
  have la':@LT.lt Nat _ a z:=la
  have lb':@LT.lt Nat _ b z:=lb
  constructor<;>first |exact(show @Ne Nat _ _ by omega)
 refine⟨s1.heap.objs.size+4,[s1.heap.objs.size+4,s1.heap.objs.size+2,s1.heap.objs.size+3,s1.heap.objs.size,s1.heap.objs.size+1],_,_,H1,rfl,I1.kept (t':=s1.toks) k7,EJ D,⟨k1,k2,⟨_,_,k3⟩,k4,k5⟩,λc hc=>?_,q⟩
 have hb':s1.heap.objs.size<=c:=by
  simp only[ay,aW,b9]at hc
  rcases hc with rfl |rfl |rfl |rfl |rfl
  ·exact bW _ _
  ·exact bW _ _
  ·exact bW _ _
  ·exact aw _
  ·exact bW _ _
 exact I1.Gp hb' (I1.hok.fresh hb')
theorem CM {a b:Addr}{xs ys:List V}{g:TG}{tb:TS}{D:Ends}{σ:St}(n:Nat)(hn:n=min xs.length ys.length)(Pv:Nat->St->Hp->Prop)(h0:Pv 0 σ H)(hl:∀ i σ H,i<=n->Pv i σ H->SqL K H a xs/\SqL K H b ys)
  (hs:∀ i x y σ H p,xs[i]? = some x->ys[i]? = some y->Pv i σ H->H p=none->g (.ref p) σ (upd H p (.tup [x,y])) λσ2 H2=>tb {D with nx:=Pv (i+1),ct:=Pv (i+1),bk:=D.nx} σ2 H2) (hd:∀ σ H,Pv n σ H->D.nx σ H):
  ∃ W:Nat->Nat->St->Hp->Prop,(∃ m,W 0 m σ H)/\∀ i m σ H,W i m σ H->
   ((Itz K a b).stop i H/\D.nx σ H)\/((Itz K a b).go i H/\∃ N:St->Hp->Prop,(∀ σ' H',N σ' H'->∃ m',m'<m/\W (i+1) m' σ' H')/\∀ x H',(Itz K a b).yld i H x H'->g x σ H' λσ2 H2=>tb {D with nx:=N,ct:=N,bk:=D.nx} σ2 H2):=by
 refine⟨λi m σ H=>m=n-i/\i<=n/\Pv i σ H,⟨n,by simp,aV _,h0⟩,?_⟩
 rintro i m σ H ⟨rfl,hi,p⟩
 obtain⟨q1,q2⟩:=hl i σ H hi p
 by_cases hlt:i<n
 ·have h1:i<xs.length:=by omega
  have h2:i<ys.length:=by omega
  refine .inr ⟨⟨xs,ys,xs[i],ys[i],q1,q2,by simp[h1],by simp[h2]⟩,Pv (i+1),λσ' H' p'=>⟨n-(i+1),by omega,rfl,hlt,p'⟩,λx H' y=>?_⟩
  obtain⟨pa,hp,e,y⟩:=y
  subst e
  have hx:xs[i]? = some xs[i]:=by simp[h1]
  have hy:ys[i]? = some ys[i]:=by simp[h2]
  rw[y xs ys _ _ q1 q2 hx hy]
  exact hs i _ _ σ H pa hx hy p hp
 ·have e:i=n:=by omega
  subst e
  exact .inl ⟨⟨xs,ys,q1,q2,by omega⟩,hd σ H p⟩
theorem ue:∀ {bs:List Bool}{us:List Value},Vals (bs.map V.bl) us->us=bs.map Value.bool
 |[],_,.nil=>rfl
 |b::bs,_,.cons r t=>by
  cases r
  rw[ue t];rfl
theorem GD (hc:X.calm=true):jY X (.builtin "all") (λxs H Q=>∃ (a:Addr) (bs:List Bool),xs = [.ref a]/\SqL X.K H a (bs.map V.bl)/\Q (.bl (bs.all id)) H):=by
 intro pins s σ H xs us Q I r h
 obtain⟨a,bs,rfl,hx,q⟩:=h
 obtain⟨u,rfl,ru⟩:=vals1 r
 cases ru
 obtain⟨its,rv,p,hz⟩:=I.list hx
 have e:=ue rv
 subst e
 have hl:=p.isList
 have hlt:a<s.heap.objs.size:=by obtain⟨_,e,_⟩:=hl;exact ar e
 refine call_all_walk (dw hl ?_)
 refine⟨s.heap.objs.size,[s.heap.objs.size,a],[s.heap.objs.size],(bs.map Value.bool).toArray.size,_,_,λi=>(bs[i]?).getD true,rfl,Walks.list (A:=X.A.in1) (I.ok.hd hc) _ a (aD hlt) (bs.map Value.bool).toArray,
  ⟨⟨_,aM _ rfl,rfl,rfl⟩,hl.push _⟩,λi v s' Q' E' hP hQ=>?_,λh' tk hk=>?_⟩
 ·have hP':(bs.map Value.bool)[i]? = some v:=by simpa using hP
  rw[ah]at hP'
  cases q:bs[i]? with
  |none=>rw[q]at hP';cases hP'
  |some b=>
   rw[q]at hP'
   cases hP'
   have hQ':Q' b s':=by simpa [q]using hQ
   exact bU hQ'
 ·have e:((List.range (bs.map Value.bool).toArray.size).all λi=>(bs[i]?).getD true)=bs.all id:=by
   rw[aJ,aa];exact PyProof.Rows.LSm.range_all bs
  rw[e]
  have kk:∀ b x,s.heap.get? b=some x->h'.get? b=some x:=λb x e=>hk b x (λhm=>by rw[bL.mp hm]at e;exact cz _ (ar e)) (aj _ e)
  exact⟨.bl (bs.all id),H,I.kept (t':=tk) kk,rfl,q⟩
end
section
variable {K:PySem.W.Frag}{l:Addr}{g:TG}{tt:TT}{te:TE}{cap:List (Option Nat)}{σ:St}{Q:VK}{H1:Hp}{J:It}
theorem BG (n:Nat)(Pv:Nat->List V->Hp->Prop)(h0:Pv 0 [] (upd H1 l (.lst [])))(go:∀ i acc H,i<n->Pv i acc H->J.go i H)(st:∀ acc H,Pv n acc H->J.stop n H)
  (hs:∀ i x acc H H',i<n->Pv i acc H->J.yld i H x H'->g x (ju cap σ) H' λσ2 H2=>tt σ2 H2 λb H3=>
    if b=true then te σ2 H3 λy H4=>H4 l=some (.lst acc)/\acc.length<sizeLine/\Pv (i+1) (acc ++ [y]) (upd H4 l (.lst (acc ++ [y])))
    else Pv (i+1) acc H3) (hd:∀ acc H,Pv n acc H->Q (.ref l) H):LcW J g tt te cap σ Q l H1:=by
 refine⟨λi m acc H=>m=n-i/\i<=n/\Pv i acc H,⟨n,by simp,aV _,h0⟩,?_⟩
 rintro i m acc H ⟨rfl,hi,p⟩
 by_cases hlt:i<n
 ·exact .inr ⟨go i acc H hlt p,λxp H'=>Pv (i+1) xp H',λxp H' p'=>⟨n-(i+1),by omega,rfl,hlt,p'⟩,λx H' y=>hs i x acc H H' hlt p y⟩
 ·have e:i=n:=by omega
  subst e
  exact .inl ⟨st acc H p,hd acc H p⟩
theorem sg {α:Type}(n:Nat)(ds:List α)(p:α->Bool)(f:α->V)(hn:H1 l=none)(hlen:n=ds.length)(hz:n<sizeLine)(go:∀ i H,eW H1 H->i<n->J.go i H)(st:∀ H,eW H1 H->J.stop n H)
  (hs:∀ i x d H H',eW H1 H->J.yld i H x H'->ds[i]? = some d->∀ (P1:VK) (P0:Hp->Prop),(∀ H2,p d=true->eW H H2->P1 (f d) H2)->(∀ H2,p d=false->eW H H2->P0 H2)->
   g x (ju cap σ) H' λσ2 H2=>tt σ2 H2 λb H3=>if b=true then te σ2 H3 P1 else P0 H3)
  (hq:∀ H',eW H1 H'->H' l=some (.lst ((ds.filter p).map f))->Q (.ref l) H'):LcW J g tt te cap σ Q l H1:=by
 refine BG n (λi acc H=>acc=((ds.take i).filter p).map f/\eW H1 H/\H l=some (.lst acc)) ⟨rfl,eN hn,eO⟩ (λi acc H hi ⟨_,s,_⟩=>go i H s hi) (λacc H ⟨_,s,_⟩=>st H s) ?_ ?_
 ·rintro i x acc H H' hi ⟨e1,s,hl⟩ y
  have hd:ds[i]? = some (ds[i]'(by omega)):=by simp
  generalize ds[i]'(by omega)=d at hd
  have step:((ds.take (i+1)).filter p).map f=acc++(if p d=true then[f d]else[]):=by
   rw[bx,hd,List.filter_append,aC,e1]
   congr 1
   by_cases hp:p d=true
   ·simp[hp]
   ·have hp':p d=false:=by simpa using hp
    simp[hp']
  have la:acc.length<sizeLine:=by
   have h1:acc.length<=i:=by
    rw[e1,aa]
    exact aT (bD _ _) (by rw[aI];omega)
   omega
  refine hs i x d H H' s y hd _ _ (λH2 hp s2=>?_) (λH2 hp s2=>?_)
  ·refine⟨s2 _ _ hl,la,?_,eW.upd (s.trans s2) hn,eO⟩
   rw[step,av hp]
  ·refine⟨?_,s.trans s2,s2 _ _ hl⟩
   rw[step,ak (by rw[hp];exact ax),bS]
 ·rintro acc H ⟨e1,s,hl⟩
  rw[bh (by omega)]at e1
  subst e1
  exact hq H s hl
end
noncomputable def Fb (S:Int->Bool)(k:Int):Int->Bool:=λk'=>S k'||decide (k'=k)
noncomputable def FK (S:Int->Bool)(n:Nat)(k:Int):Nat:=if S k=true then n else n+1
section
variable {X:Cx}{pins:List (Addr×Obj)}{σ:St}{H:Hp}{s:Shared}
theorem Inv.setM {l:Addr}{S:Int->Bool}{n:Nat}(I:Inv X pins σ H s)(h:H l=some (.set S n)):s.heap.SetOf (intKind X.prog X.w) l S n:=I.hok l _ h
theorem isInt_self (k:Int)(t:Tok):Value.isInt k (.int k t)=true:=by simp[Value.isInt]
noncomputable def Kq:V->List V->Hp->VK->Prop:=λx vs H Q=>∃ l S n k,x = .ref l/\vs = [.int k]/\H l=some (.set S n)/\n+1<scanBound/\Q .non (upd H l (.set (Fb S k) (FK S n k)))
theorem Hj:MtR X "set.add" Kq:=by
 intro pins s σ H x vs v us Q I rx rv h
 obtain⟨l,S,n,k,rfl,rfl,hH,hb,q⟩:=h
 cases rx
 obtain⟨u,rfl,t,rfl⟩:=rv.one
 have hS:=Inv.setM I hH
 refine call_set_add (knd:=intKind X.prog X.w) (k:=k) (isInt_self k t) rfl hS hb λh' sb hS'=>?_
 refine⟨.non,_,I.write (t':=s.toks+1) (o:=.set (Fb S k) (FK S n k)) (x:=l) (e:=l) (by rw[hH];exact trivial) (.inl rfl) (λb u hb e=>sb.extBut b u hb e) ?_ ?_,rfl,q⟩
 ·obtain⟨o,_,_,_,e,_⟩:=hS';exact⟨o,e⟩
 ·exact hS'
theorem yh:jY X (.builtin "len") (λxs H Q=>∃ p S n,xs = [.ref p]/\H p=some (.set S n)/\Q (.int n) H):=by
 intro pins s σ H xs us Q I r h
 obtain⟨p,S,n,rfl,hH,q⟩:=h
 obtain⟨u,rfl,rx⟩:=vals1 r
 cases rx
 obtain⟨o,es,ep,t,e,hex,hd,hel,hm,hb,hf,hn⟩:=Inv.setM I hH
 refine call_len_set e hex hd hf ?_ ⟨.int n,H,I.tok _,⟨_,by rw[hn]⟩,q⟩
 have:scanBound=4096:=rfl
 omega
end
section
variable {X:Cx}{pins:List (Addr×Obj)}{σ:St}{H1:Hp}{s2:Shared}{scope:Scope}{N:List Str}{own:Nat}{cap:List (Option Nat)}{cl:List (Str×Addr)}{fp:List Addr}
 {tg iter elt:Expr}{ifs:List Expr}{pos:Pos}{g:TG}{tt:TT}{te:TE}{wi:TI}
noncomputable def ScW (J:It)(g:TG)(tt:TT)(te:TE)(cap:List (Option Nat))(σ:St)(Q:VK)(l:Addr)(H1:Hp):Prop:=
 ∃ W:Nat->Nat->Hp->Prop,(∃ m,W 0 m (upd H1 l (.set (λ_=>false) 0)))/\∀ i m H,W i m H->
  (J.stop i H/\Q (.ref l) H)\/(J.go i H/\∃ N:Hp->Prop,(∀ H',N H'->∃ m',m'<m/\W (i+1) m' H')/\
   ∀ x H',J.yld i H x H'->g x (ju cap σ) H' λσ2 H2=>tt σ2 H2 λb H3=>
    if b=true then te σ2 H3 λy H4=>∃ S n k,y = .int k/\H4 l=some (.set S n)/\n+1<scanBound/\N (upd H4 l (.set (Fb S k) (FK S n k)))
    else N H3)
noncomputable def tSC (wi:TI)(cap:List (Option Nat))(g:TG)(tt:TT)(te:TE):TE:=λσ H Q=>wi σ H λJ H1=>∀ l,H1 l=none->
 ScW J g tt te cap σ Q l H1
theorem Er {it:Addr}{tn:Nat->Heap->Prop}{J:It}{Q:VK}{RR:Value->Addr->Result->Shared->Prop}{E:Value->Shared->Prop}(I:Inv X pins σ H1 s2)(T:Turn X.prog X.w X.K tg J fp it tn)(t0:tn 0 s2.heap)
  (f:∀ b∈fp,nU X pins H1 b) (hc:X.calm=true) (C:gp X.env.scope X.N scope N own cap) (ho:uE own g)
  (mT:∀ x c,cl.lookup x=some c->X.env.cells.lookup x=some c) (qQ:∀ y∈scope.names,y.2 = .free->∃ c,cl.lookup y.1=some c)
  (hg:∀ s3 H3,PG (gE X scope cl N fp s3 H3) tg g) (ht:∀ s3 H3,zB (gE X scope cl N fp s3 H3) ifs tt) (he:∀ s3 H3,PE (gE X scope cl N fp s3 H3) elt te)
  (hw:∀ l,H1 l=none->ScW J g tt te cap σ Q l H1)
  (fin:∀ l C s' H' m',Inv X pins σ H' s'->s'.heap.Ns C m'->H' C=none->Apart X pins C->Q (.ref l) H'->RR (.ref l) C (.ok .next) s'):
  wpAny (model X.prog X.w) X.A (newSet (.type "set")) (λacc s₃=>wpAny (model X.prog X.w) X.A (newFunctionEnv scope X.env.globals cl [] X.env.qual none .none (some X.env)) (λcenv s₄=>
   codeAny (model X.prog X.w) X.A (.compStart (.SetComp elt [⟨tg,iter,ifs,0⟩] scope pos) 0 (.ref it) acc {cenv with scope:=relabel scope X.env}) (RR acc cenv.locals) s₄) E s₃) E s2:=by
 refine wpAny_newSet_of (knd:=intKind X.prog X.w) λled Sa=>?_
 refine wpAny_newFunctionEnv C.ze (by intro y hy;simp at hy) (λh₁ mS mR=>?_) C.kind
 dsimp only at mS mR ⊢
 obtain⟨W,⟨m0,w0⟩,turn⟩:=hw s2.heap.objs.size I.fresh
 have I3:Inv X pins σ (upd H1 s2.heap.objs.size (.set (λ_=>false) 0)) {s2 with heap:=s2.heap.push {cls:=.type "set",dict:=none,data:=.set #[] 0 (.fresh 0 0 led)}} :=
  I.laid (t':=s2.toks) (λb u e=>aj _ e) (aw _) Sa
 generalize hs3:({s2 with heap:=s2.heap.push {cls:=.type "set",dict:=none,data:=.set #[] 0 (.fresh 0 0 led)}} :Shared)=s3 at I3
 have hh3:s3.heap=s2.heap.push {cls:=.type "set",dict:=none,data:=.set #[] 0 (.fresh 0 0 led)} :=by rw[<-hs3]
 rw[<-hh3]at mS mR ⊢
 have e4:({s2 with heap:=h₁,toks:=s2.toks+([]:List (Str×Value)).length} :Shared) = {s3 with heap:=h₁,toks:=s2.toks} :=by rw[<-hs3];rfl
 rw[e4]
 have k4:∀ b u,s3.heap.get? b=some u->h₁.get? b=some u:=λb u e=>mR.extBut b u (aD (ar e)) (aj _ e)
 have k3:∀ b u,s2.heap.get? b=some u->s3.heap.get? b=some u:=λb u e=>by rw[hh3];exact aj _ e
 have hb2:∀ b∈fp,b<s2.heap.objs.size:=λb hb=>by obtain⟨o,e,_⟩:=T.obj _ _ t0 b hb;exact ar e
 have f3:∀ b∈fp,nU X pins (upd H1 s2.heap.objs.size (.set (λ_=>false) 0)) b:=λb hb=>by
  obtain⟨f0,fr⟩:=f b hb
  exact⟨by rw[fw (aD (hb2 b hb))];exact f0,fr⟩
 have hb3:∀ b∈fp,b<s3.heap.objs.size:=λb hb=>by obtain⟨o,e,_⟩:=T.obj _ _ t0 b hb;exact ar (k3 b o e)
 have I4:=vW (tk:=s2.toks) I3 C mT qQ (λb hb=>⟨f3 b hb,hb3 b hb⟩) mS k4
 generalize hH3:upd H1 s2.heap.objs.size (.set (λ_=>false) 0)=H3 at *
 have st4:tn 0 h₁:=T.keep _ _ _ t0 λb hb o e=>k4 b o (k3 b o e)
 have fpX:∀ {H':Hp},(∀ b∈fp,H' b=none)->∀ b∈fp,nU (gE X scope cl N fp s3 H3) [] H' b:=λ{H'} hn b hb=>by
  obtain⟨f0,f1,f2,f3',f4,f5⟩:=f3 b hb
  refine⟨hn b hb,aD (hb3 b hb),λhz=>?_,.inl hb,λx c e=>f4 x c (mT x c e),λp hp=>absurd (show p∈([]:List (Addr×Obj)) from hp) (by simp)⟩
  rcases ay.mp (I3.oH b hz)with z |z
  ·exact f1 z
  ·exact f2 z
 have loop:codeAny (model X.prog X.w) X.A (.compLoop (.SetComp elt [⟨tg,iter,ifs,0⟩] scope pos) 0 (.ref it) (.ref s2.heap.objs.size) (compEnvC scope cl s3.heap.objs.size X.env)) (RR (.ref s2.heap.objs.size) s3.heap.objs.size) {s3 with heap:=h₁,toks:=s2.toks} :=by
  refine zz (λn s'=>∃ i H',Inv (gE X scope cl N fp s3 H3) [] (ju cap σ) H' s'/\tn i s'.heap/\(∀ b∈fp,H' b=none)/\W i n H') ?_ m0 ⟨0,H3,I4,st4,λb hb=>(f3 b hb).1,w0⟩
  rintro n s' ⟨i,H',I',st,fr,w⟩
  rcases turn i n H' w with⟨stop,q⟩|⟨go,NN,hNN,step⟩
  ·refine thn (T.done (gE X scope cl N fp s3 H3) rfl rfl rfl hc i [] s' _ H' (λ_ _=>False) I' (fpX fr) st stop) λr s5 ⟨hr,I5⟩=>?_
   subst hr
   obtain⟨m5,hn5,_⟩:=id I5.loc
   exact fin _ _ s5 H' m5 (comp_back I3 f3 I5) hn5 I5.free (TL.Inv.apart I3) q
  ·refine thn (T.item (gE X scope cl N fp s3 H3) rfl rfl rfl hc i [] s' _ H' (λ_ _=>False) I' (fpX fr) st go) λr s5 ⟨u,hr,h5⟩=>?_
   subst hr
   refine thn h5 λ_ s6 ⟨x,H6,I6,r6,y6,st6,fr6⟩=>?_
   have I6':=I6.pinned (fpX fr6) (T.obj _ _ st6)
   refine thn (hg s3 H3 _ s6 _ H6 x u _ I6' r6 (ho.own _ _ _ _ (step x H6 y6))) λ_ s7 ⟨σ7,H7,I7,q7,l7,o7⟩=>?_
   have cov:∀ (i:Nat) v,(ju cap σ)[i]? = some (some v)->σ7[i]? = some (some v):=λi v e=>by
    obtain⟨j,c1,c2⟩:=qM e
    by_cases hi:i<own
    ·exact(C.vD hi c1).elim
    ·rw[o7 i (by omega)];exact e
   have back:∀ {H8:Hp}{s8:Shared},Inv (gE X scope cl N fp s3 H3) ([]++rm fp s6.heap) σ7 H8 s8->Inv (gE X scope cl N fp s3 H3) [] (ju cap σ) H8 s8/\tn (i+1) s8.heap/\∀ b∈fp,H8 b=none:=λ{H8 s8} I8=>by
    refine⟨(Inv.nW (pins:=[]) I8).weak l7.symm cov,T.keep _ _ _ st6 λb hb o e=>(I8.pin (b,o) (aF _ (aF _ (jC hb e)))).1,λb hb=>?_⟩
    obtain⟨o,e,d⟩:=T.obj _ _ st6 b hb
    exact(I8.pin (b,o) (aF _ (aF _ (jC hb e)))).2.1
   refine thn (ht s3 H3 _ s7 σ7 H7 _ I7 q7) λb s8 ⟨H8,I8,q8⟩=>?_
   cases b with
   |false=>
    rw[ak ax]at q8 ⊢
    obtain⟨m',hm,w8⟩:=hNN _ q8
    obtain⟨J1,J2,J3⟩:=back I8
    exact⟨m',hm,i+1,H8,J1,J2,J3,w8⟩
   |true=>
    rw[av rfl]at q8 ⊢
    refine thn (he s3 H3 _ s8 σ7 H8 _ I8 q8) λv s9 ⟨y,H9,I9,r9,S,nn,k,ey,ha,hz,n9⟩=>?_
    obtain⟨m',hm,w9⟩:=hNN _ n9
    subst ey
    refine thn (Hj _ s9 σ7 H9 (.ref s2.heap.objs.size) [.int k] (.ref s2.heap.objs.size) [v] (λ_ H10=>W (i+1) m' H10) I9 rfl (.cons r9 .nil) ⟨_,S,nn,k,rfl,rfl,ha,hz,w9⟩) λ_ s10 ⟨_,H10,I10,_,w10⟩=>?_
    obtain⟨J1,J2,J3⟩:=back I10
    exact⟨m',hm,i+1,H10,J1,J2,J3,w10⟩
 exact xn loop (T.self X.A 0 _ _ _ st4 loop)
theorem Kv (hi:PI X tg iter wi)(hc:X.calm=true)(C:gp X.env.scope X.N scope N own cap)(ho:uE own g)
  (hg:∀ cl fp s3 H3,PG (gE X scope cl N fp s3 H3) tg g) (ht:∀ cl fp s3 H3,zB (gE X scope cl N fp s3 H3) ifs tt) (he:∀ cl fp s3 H3,PE (gE X scope cl N fp s3 H3) elt te)
  (hs:∀ x,foldedSetIterable iter X.env x=pure x:=by intro _;rfl):PE X (.SetComp elt [⟨tg,iter,ifs,0⟩] scope pos) (tSC wi cap g tt te):=by
 intro pins s σ H Q I h
 obtain⟨cl,ecl,mT,qQ⟩:=pf (scope:=scope) (env:=X.env) λy hy hf=>I.ok.has y.1 (C.fre y hy hf)
 rw[arm_eval_SetComp]
 refine wpAny_comprehension_free (use:=none) rfl hs ecl C.kind C.loc (thn (hi pins s σ H _ I h) λxv s1 h1=>thn h1 λitv s2 h2=>?_)
 obtain⟨it,fp,tn,J,H2,e,I2,T,st2,f2,hw⟩:=h2
 subst e
 refine Er (RR:=λacc C=>compPost (model X.prog X.w) X.A X.xe none (EP X pins σ Q) acc C) I2 T st2 f2 hc C ho mT qQ (hg cl fp) (ht cl fp) (he cl fp) hw λl Ca s' H' m' I' hn nk hP q=>?_
 exact⟨m',hn,λh'' BO=>⟨.ref l,H',ou I' hP nk BO,rfl,q⟩⟩
end
noncomputable def dn (ks:List Int):Nat->Nat
 | 0=>0
 |i+1=>if ks.getD i 0∈ks.take i then dn ks i else dn ks i+1
theorem CQ (ks:List Int):∀ i,dn ks i<=i
 | 0=>aw _
 |i+1=>by
  have:=CQ ks i
  unfold dn
  split<;>omega
theorem Il {ks:List Int} :∀ {i},dn ks i=i↔∀ j,j<i->ks.getD j 0∉ks.take j
 | 0=>⟨λ_ j h=>absurd h (Nat.not_lt_zero j),λ_=>rfl⟩
 |i+1=>by
  have h1:=CQ ks i
  have h2:=@Il ks i
  unfold dn
  constructor
  ·intro h j hj
   split at h
   ·omega
   ·rcases cU.mp hj with z |z
    ·exact h2.mp (by omega) j z
    ·subst z;assumption
  ·intro h
   rw[ak (h i (by omega)),h2.mpr λj hj=>h j (by omega)]
theorem BB (ks:List Int):ks.Nodup↔∀ j,j<ks.length->ks.getD j 0∉ks.take j:=by
 constructor
 ·intro h j hj hm
  obtain⟨i,hi,e⟩:=cQ.mp hm
  rw[aI]at hi
  rw[List.getElem_take]at e
  have e2:ks.getD j 0=ks[j]:=by rw[ba,aO hj];rfl
  rw[e2]at e
  have:=(List.getElem_inj h).mp e
  omega
 ·intro h
  rw[List.Nodup,ei]
  intro i j hi hj hij e
  refine h j hj ?_
  have e2:ks.getD j 0=ks[j]:=by rw[ba,aO hj];rfl
  rw[e2,<-e]
  exact cQ.mpr ⟨i,by rw[aI];omega,by rw[List.getElem_take]⟩
theorem Gy (ks:List Int):dn ks ks.length=ks.length↔ks.Nodup:=Il.trans (BB ks).symm
theorem CP (ks:List Int):dn ks ks.length<ks.length↔¬ks.Nodup:=by
 rw[<-Gy]
 have:=CQ ks ks.length
 omega
theorem take_snoc {ks:List Int}{i:Nat}(hi:i<ks.length):ks.take (i+1)=ks.take i ++ [ks.getD i 0]:=by
 rw[bx,ba,aO hi];rfl
theorem DF {ks:List Int}{i:Nat}(hi:i<ks.length):Fb (λk=>decide (k∈ks.take i)) (ks.getD i 0) = λk=>decide (k∈ks.take (i+1)):=by
 funext k
 rw[take_snoc hi]
 simp[Fb]
theorem DV (ks:List Int)(i:Nat):FK (λk=>decide (k∈ks.take i)) (dn ks i) (ks.getD i 0)=dn ks (i+1):=by
 unfold FK
 rw[dn]
 by_cases h:ks.getD i 0∈ks.take i
 ·rw[av h,av (by simpa using h)]
 ·rw[ak h,ak (by simpa using h)]
section
variable {X:Cx}
theorem yg (ns:List Int):∀ i,i<=ns.length->(firstMet (λi=>ns.getD i 0) i).length=dn ns i/\∀ k,(firstMet (λi=>ns.getD i 0) i).any (· == k)=decide (k∈ns.take i)
 | 0,_=>⟨by rw[firstMet_zero];rfl,λk=>by rw[firstMet_zero];simp⟩
 |i+1,hi=>by
  obtain⟨h1,h2⟩:=yg ns i (by omega)
  refine⟨?_,λk=>?_⟩
  ·rw[firstMet_succ,step_length,h2,h1,dn]
   by_cases h:ns.getD i 0∈ns.take i
   ·rw[av h,av (by simpa using h)]
   ·rw[ak h,ak (by simpa using h)]
  ·rw[firstMet_succ,step_any,h2,take_snoc (by omega)]
   simp
theorem Et (hc:X.calm=true):jY X (.type "set") (λxs H Q=>∃ (a:Addr) (ns:List Int),xs = [.ref a]/\SqL X.K H a (ns.map V.int)/\ns.length+1<scanBound/\
  ∀ p,H p=none->Q (.ref p) (upd H p (.set (λk=>decide (k∈ns)) (dn ns ns.length)))):=by
 intro pins s σ H xs us Q I r h
 obtain⟨a,ns,rfl,hx,hb,q⟩:=h
 obtain⟨u,rfl,ru⟩:=vals1 r
 cases ru
 obtain⟨its,rv,p,hz⟩:=I.list hx
 have hl:=rv.length
 rw[aa]at hl
 refine call_set_list (ns:=ns) (I.ok.hd hc) p.isList (intsAre_of rv) (by rw[aJ,<-hl];exact hb) λh' tk hS hk=>?_
 have hsz:its.toArray.size=ns.length:=by rw[aJ,<-hl]
 rw[hsz]at hS
 obtain⟨e1,e2⟩:=yg ns ns.length (aw _)
 rw[e1]at hS
 have e3:(λk'=>(firstMet (λi=>ns.getD i 0) ns.length).any (· == k')) = λk=>decide (k∈ns):=by
  funext k
  rw[e2,bo]
 rw[e3]at hS
 exact⟨.ref s.heap.objs.size,_,I.laid (t':=tk) (o:=.set (λk=>decide (k∈ns)) (dn ns ns.length)) (λb u e=>hk b u (ar e) e) (aw _) hS,rfl,q _ I.fresh⟩
end
section
variable {l:Addr}{g:TG}{tt:TT}{te:TE}{cap:List (Option Nat)}{σ:St}{Q:VK}{H1:Hp}{J:It}
theorem E6 {α:Type}{n:Nat}{it:Nat->V->Prop}(S:JS J n H1 it)(ds:List α)(f:α->Int)(hn:H1 l=none)(hlen:n=ds.length)(hz:n+1<scanBound)
  (hs:∀ (i:Nat) x d H,it i x->ds[i]? = some d->eW H1 H->∀ (P1:VK) (P0:Hp->Prop),P1 (.int (f d)) H->
   g x (ju cap σ) H λσ2 H2=>tt σ2 H2 λb H3=>if b=true then te σ2 H3 P1 else P0 H3)
  (hq:Q (.ref l) (upd H1 l (.set (λk=>decide (k∈ds.map f)) (dn (ds.map f) n)))):ScW J g tt te cap σ Q l H1:=by
 refine⟨λi m H=>m=n-i/\i<=n/\H=upd H1 l (.set (λk=>decide (k∈(ds.map f).take i)) (dn (ds.map f) i)),⟨n,by simp,aV _,?_⟩,?_⟩
 ·congr 2
 rintro i m H ⟨rfl,hi,e2⟩
 have sm:eW H1 H:=by rw[e2];exact eN hn
 by_cases hlt:i<n
 ·refine .inr ⟨S.go i H sm hlt,λH'=>H'=upd H1 l (.set (λk=>decide (k∈(ds.map f).take (i+1))) (dn (ds.map f) (i+1))),λH' p2=>⟨n-(i+1),by omega,rfl,hlt,p2⟩,λx H' y0=>?_⟩
  obtain⟨e,y⟩:=S.yld i H x H' sm hlt y0
  clear y0
  subst e
  have hd:ds[i]? = some (ds[i]'(by omega)):=by simp
  generalize ds[i]'(by omega)=d at hd
  refine hs i x d H' y hd sm _ _ ⟨_,_,f d,rfl,by rw[e2];exact eO,?_,?_⟩
  ·have:=CQ (ds.map f) i
   omega
  ·have e3:(ds.map f).getD i 0=f d:=by rw[ba,ah,hd];rfl
   have h1:=DF (ks:=ds.map f) (i:=i) (by rw[aa];omega)
   have h2:=DV (ds.map f) i
   rw[e3]at h1 h2
   rw[h1,h2,e2,qC]
 ·have e:i=n:=by omega
  subst e
  refine .inl ⟨S.stop H sm,?_⟩
  rw[e2,bh (by rw[aa];omega)]
  exact hq
end
noncomputable def hid (p:Addr)(H:Hp):Hp:=λb=>if b=p then none else H b
variable {p:Addr}
theorem qe:eW (hid p H) H:=λb o h=>by
 unfold hid at h
 by_cases e:b=p
 ·rw[av e]at h;cases h
 ·rw[ak e]at h;exact h
theorem nM {b:Addr}(h:b≠p):hid p H b=H b:=by unfold hid;rw[ak h]
theorem v9:hid p H p=none:=by unfold hid;rw[av rfl]
theorem AN {H':Hp}(s:eW H H'):eW (hid p H) (hid p H'):=λb o h=>by
 by_cases e:b=p
 ·subst e;rw[v9]at h;cases h
 ·rw[nM e]at h ⊢;exact s _ _ h
theorem zp {o:HO} :hid p (upd H p o)=hid p H:=by
 funext b
 by_cases e:b=p
 ·subst e;rw[v9,v9]
 ·rw[nM e,nM e,fw e]
theorem Hv {a:Addr}{vs xs:List V}(hp:H p=some (.lst vs))(h:SqT K H a xs):SqT K (hid p H) a xs:=by
 rcases h with(h |⟨o,h⟩)|h
 ·exact .inl (.inl (by rw[nM (Cu h hp (by intro z;cases z))];exact h))
 ·exact .inl (.inr ⟨o,by rw[nM (Cu h hp (by intro z;cases z))];exact h⟩)
 ·exact .inr h
theorem AY (xs:List V){i:Int}(h:0<=i):nO xs none (some i)=xs.take i.toNat:=by
 unfold nO
 rw[HT.rS]
 have e:HT.sIx xs.length xs.length (some i)=min i.toNat xs.length:=by
  have:=HT.yQ xs.length xs.length i.toNat
  rw[show((i.toNat:Nat):Int)=i by omega]at this
  exact this
 rw[e,List.drop_zero,Nat.sub_zero]
 by_cases h2:i.toNat<=xs.length
 ·rw[Nat.min_eq_left h2]
 ·rw[Nat.min_eq_right (by omega),bh (aw _),bh (by omega)]
theorem wg (xs:List V){i:Int}(h:0<=i):nO xs (some i) none=xs.drop i.toNat:=by
 unfold nO
 rw[HT.rS]
 have e:HT.sIx xs.length 0 (some i)=min i.toNat xs.length:=by
  have:=HT.yQ xs.length 0 i.toNat
  rw[show((i.toNat:Nat):Int)=i by omega]at this
  exact this
 rw[e]
 by_cases h2:i.toNat<=xs.length
 ·rw[Nat.min_eq_left h2,bh (by rw[bp];omega)]
 ·rw[Nat.min_eq_right (by omega),List.drop_of_length_le (aw _),List.drop_of_length_le (by omega),List.take_nil]
theorem JO {xs:List V}{v:V}{i:Int}(h0:0<=i)(h:xs[i.toNat]? = some v):atI xs i=some v:=by
 have:=ik h
 rw[show((i.toNat:Nat):Int)=i by omega]at this
 exact this
section
variable {K:PySem.W.Frag}{l:Addr}{g:TG}{tt:TT}{te:TE}{cap:List (Option Nat)}{σ:St}{Q:VK}{H1:Hp}{J:It}
theorem CC {α:Type}(n:Nat)(ds:List α)(d':α->PyData)(hn:H1 l=none)(hlen:n=ds.length)(hz:n<sizeLine)(go:∀ i H,eW H1 H->i<n->J.go i H)(st:∀ H,eW H1 H->J.stop n H)
  (hs:∀ i x d H H',eW H1 H->(∃ us,H l=some (.lst us))->J.yld i H x H'->ds[i]? = some d->∀ (P1:VK) (P0:Hp->Prop),(∀ v H2,eW H H2->Da K (hid l H2) (d' d) v->P1 v H2)->
   g x (ju cap σ) H' λσ2 H2=>tt σ2 H2 λb H3=>if b=true then te σ2 H3 P1 else P0 H3)
  (hq:∀ vs H',eW H1 H'->H' l=some (.lst vs)->Das K (hid l H') (ds.map d') vs->Q (.ref l) H'):LcW J g tt te cap σ Q l H1:=by
 refine BG n (λi acc H=>Das K (hid l H) ((ds.take i).map d') acc/\eW H1 H/\H l=some (.lst acc)) ⟨gA.mpr rfl,eN hn,eO⟩ (λi acc H hi ⟨_,s,_⟩=>go i H s hi) (λacc H ⟨_,s,_⟩=>st H s) ?_ ?_
 ·rintro i x acc H H' hi ⟨e1,s,hl⟩ y
  have hd:ds[i]? = some (ds[i]'(by omega)):=by simp
  generalize ds[i]'(by omega)=d at hd
  refine hs i x d H H' s ⟨_,hl⟩ y hd _ _ (λv H2 s2 dv=>?_)
  have la:=Dgs.length e1
  rw[aa,aI]at la
  refine⟨s2 _ _ hl,by omega,?_,eW.upd (s.trans s2) hn,eO⟩
  rw[zp,bx,hd,aC]
  exact Dgs.append (Das.same (AN s2) e1) (Dgs.one dv)
 ·rintro acc H ⟨e1,s,hl⟩
  rw[bh (by omega)]at e1
  exact hq acc H s hl e1
end
open PySem.W
theorem xj {e:Value}{env env':Env}(h:env.frame=env'.frame):noteFrame e env=noteFrame e env':=by
 unfold noteFrame PySem.frameOf
 rw[h]
structure FlH (P:Program)(w:World)(base:Heap)(l:List Env)(H H1:Hp)(h0:Heap)(e C L:Addr)(B h:Heap):Prop extends Fl0 P w base l H H1 h0 B h where
 held:∃ a0,Heap.HeldW B l e (.ref C) a0 L h
section
variable {X:Cx}{pins:List (Addr×Obj)}{σ:St}{H H1:Hp}{s s':Shared}{e C:Addr}{B:Heap}
theorem FC {M:Model}{E:Value->Shared->Prop}{Q:Unit->Shared->Prop}(I:Inv X pins σ H s)(hst:X.stack=X.env::X.outer)(hf:X.env.frame=some X.env.locals)(hex:X.ex = [])
  (ho:s'.os=s.os) (hg:AllBare s'.gens) (x:FlH X.prog X.w X.base X.stack H H1 s.heap e C X.env.locals B s'.heap) (hQ:∀ B h'',Fl X.prog X.w X.base X.outer X.H₀ H1 X.s₀.heap e C B h''->Q () {s' with heap:=h''}):
  wpAny M X.A (leaving X.env (.ref e)) Q E s':=by
 obtain⟨a0,f⟩:=x.held
 have J:Inv X pins σ H1 s':=I.GF (ch:=[]) ho x.un (x.hok.kept f.1) hg (λb z=>absurd z (by simp))
 have nb:∀ b,b≠X.env.locals->b∉X.fs->b∉frs X.stack:=λb h1 h2 hb=>(ay.mp (I.oH b hb)).elim h1 h2
 have neL:∀ b o,X.s₀.heap.get? b=some o->b≠X.env.locals:=λb o e=>aD (aP (ar e) I.ok.above)
 have ub:Un X.fs [] X.H₀ H X.s₀.heap s.heap:=by have:=I.base;rw[hex]at this;exact this
 have uj:Un X.fs [] X.H₀ H1 X.s₀.heap s'.heap:=by have:=J.base;rw[hex]at this;exact this
 have z0:Fl0 X.prog X.w X.base X.outer X.H₀ H1 X.s₀.heap B s'.heap:=by
  refine⟨x.bas,x.hok,λb o q n hb=>x.kp b o (ub.keep b o q n hb (by simp)) (ub.free b o q n (by simp)) (nb b (neL b o q) hb),λb o q hb=>?_,uj⟩
  obtain⟨o',e1⟩:=ub.there b o q (by simp)
  exact x.thr b o' e1 (nb b (neL b o q) hb)
 rw[hst]at f
 have ff:s'.heap.FunFrames B X.outer:=f.2.2.1.2.2
 unfold leaving
 refine ae (wpAny_noteFrame_againW hf f.2.2.2 ?_)
 refine wpAny_landsW f λh'' hfl sm=>?_
 obtain⟨k1,k2,⟨_,_,k3⟩,k4⟩:=hfl
 exact hQ B h'' ⟨z0.step k1 ff k3 sm,a0,k1,k2,k3,k4⟩
end
noncomputable def Di (X:Cx)(E:XK):Prop:=X.stack=X.env::X.outer/\X.env.frame=some X.env.locals/\∀ (pins:List (Addr×Obj)) (σ:St) (H:Hp) (s s':Shared) (e C:Addr) (H1:Hp) (B:Heap),Inv X pins σ H s->s'.os=s.os->AllBare s'.gens->
 FlH X.prog X.w X.base X.stack H H1 s.heap e C X.env.locals B s'.heap->E (.ref C) (some e) H1->X.xe (.ref e) s'
theorem Ah {P:Program}{w:World}{mg:Str->Option Value}{base:Heap}{N:List Str}{qual:Str}{scope:Scope}{f:Addr}{cd:Value}{A:Around}{outer:List Env}{s₀:Shared}{H₀:Hp}{E:XK} :
  Di (xm (CXr P w base) P w K mg base N qual scope f cd A outer s₀ H₀ E) E:=
 ⟨rfl,rfl,λpins σ H s s' e C H1 B I ho hg x q=>FC I rfl rfl rfl ho hg x λB' h'' z'=>⟨e,C,H1,B',rfl,ho.trans I.os,hg,z',q⟩⟩
section
variable {prog:Program}{w:World}{A:Around}{R:Result->Shared->Prop}{s:Shared}{XE:Value->Shared->Prop}
theorem zy {elt target iter:Expr}{ifs:List Expr}{scope:Scope}{pos:Pos}{it acc:Value}{env:Env}(I:Nat->Shared->Prop)(err:∀ x s',XE x s'->notedBy (model prog w) A env (λx s''=>R (.error x) s'') x s')
  (turn:∀ n s,I n s->wpAny (model prog w) A (pyNext it) (λr s₁=>match r with
   |none=>R (.ok .next) s₁
   |some v=>wpAny (model prog w) A (letOwnedTupleGo target it v) (λ_ s₀=>wpAny (model prog w) A (assign target env v) (λ_ s₂=>
     wpAny (model prog w) A (uF ifs env) (λok s₃=>
      if ok=true then wpAny (model prog w) A (eval elt env) (λx s₄=>
       wpAny (model prog w) A (call (.builtin "list.append") [acc,x]) (λ_ s₅=>∃ m,m<n/\I m s₅) XE s₄) XE s₃
      else ∃ m,m<n/\I m s₃) XE s₂) XE s₀) XE s₁) XE s)
  (n:Nat) (h:I n s):
  codeAny (model prog w) A (.compLoop (.ListComp elt [⟨target,iter,ifs,0⟩] scope pos) 0 it acc env) R s:=by
 refine codeAny_loop rfl I (λn s hI=>?_) n h
 show wpAny _ A ((compTurn (.ListComp elt [⟨target,iter,ifs,0⟩] scope pos) 0 it acc env).onRaise (λx=>do noteFrame x env;theTreesLotGoes x)) _ _ s
 refine wpAny_noted ?_
 rw[compTurn_list]
 refine ae (cn (ae (aR (turn n s hI) (λr s₁ h₁=>?_) err)))
 cases r with
 |none=>exact ao h₁
 |some v=>
  refine ae (aR h₁ (λ_ s₀ h₀=>?_) err)
  refine ae (aR h₀ (λ_ s₂ h₂=>ae (aR h₂ (λok s₃ h₃=>?_) err)) err)
  cases ok with
  |false=>exact ao ⟨rfl,h₃⟩
  |true=>
   exact ae (ae (aR h₃ (λx s₄ h₄=>ae (aR h₄ (λ_ s₅ h₅=>ao (ao ⟨rfl,h₅⟩)) err)) err))
end
section
variable {M:Model}{A:Around}{E:Value->Shared->Prop}{s:Shared}{env:Env}
noncomputable def qL (M:Model)(A:Around)(E:Value->Shared->Prop)(Q:Value->Shared->Prop)(acc:Value)(cenv:Env)(r:Result)(s':Shared):Prop:=
 match r with
 |.ok _=>∃ m,s'.heap.Ns cenv.locals m/\∀ h',Heap.SameBut cenv.locals s'.heap h'->Q acc {s' with heap:=h'}
 |.error x=>∃ m,s'.heap.Ns cenv.locals m/\∀ h',Heap.SameBut cenv.locals s'.heap h'->wpAny M A (passOn "comprehension.variables-let-go" x cenv:Sem Value) (λ_ _=>False) E {s' with heap:=h'}
theorem qS {e:Expr}{scope:Scope}{pos:Pos}{FJ first:Sem Value}{g:Comprehension}{gs:List Comprehension}{cl:List (Str×Addr)}{Q:Value->Shared->Prop}
  (hcl:clausesOf e=g::gs) (hs:∀ x,foldedSetIterable g.iter env x=pure x) (K9:closureFor scope env=pure cl)
  (CJ:scope.kind = .function) (Jw:∀ x∈scope.names,x.2 = .local->scope.names.lookup x.1=some .local)
  (h:wpAny M A first (λx s₁=>wpAny M A (pyIter x) (λit s₂=>wpAny M A FJ (λacc s₃=>
   wpAny M A (newFunctionEnv scope env.globals cl [] env.qual none .none (some env)) (λcenv s₄=>
    codeAny M A (.compStart e 0 it acc {cenv with scope:=relabel scope env}) (qL M A E Q acc {cenv with scope:=relabel scope env}) s₄) E s₃) E s₂) E s₁) E s):
  wpAny M A (comprehension e scope env pos FJ false first none) Q E s:=by
 unfold comprehension
 rw[K9,hcl]
 refine ae (aR h (λx s₁ h₁=>ae (cn (ae (wpAny_of_eq (hs x) (ae (bc (aR h₁ (λit s₂ h₂=>
  wpAny_standIf (ae (aR h₂ (λacc s₃ h₃=>ae (ao (ae (aR h₃ (λcenv s₄ h₄=>?_) λ_ _ h'=>h')))) λ_ _ h'=>h')))
   λ_ _ h'=>h'))))))) λ_ _ h'=>h')
 dsimp only
 have hv:∀ x∈(scope.names.filter λx=>(x.2 == .local||x.2 == .cell)&&x.1 !=(".0" :Str)).reverse,x.2 = .local->
   Env.kindOf {cenv with scope:=relabel scope env} x.1=some .local:=λx hx hl=>lookup_relabel_local (Jw x (bJ.mp (List.mem_reverse.mp hx)).1 hl)
 refine bc (ae (wpAny_attempt (bc (wpAny_run (cZ h₄ λr s' hr=>?_)))))
 cases r with
 |ok f=>
  obtain⟨m,hn,hr⟩:=hr
  exact ae (bc (wpAny_comp_letGo (cenv:={cenv with scope:=relabel scope env}) CJ _ s' m hv hn λh' m' _ hs'=>ao (hr h' hs')))
 |error x=>
  obtain⟨m,hn,hr⟩:=hr
  exact ae (bc (wpAny_comp_letGo (cenv:={cenv with scope:=relabel scope env}) CJ _ s' m hv hn λh' m' _ hs'=>aR (hr h' hs') (λ_ _ f=>f.elim) λ_ _ y=>y))
end
theorem sv {h h' base Ip:Heap}(k:∀ b,base.get? b=none->Ip.get? b=none):∀ {l:List Env},h.FunFrames base l->(∀ b∈frs l,h'.get? b=h.get? b)->h'.FunFrames Ip l
 |[],_,_=>trivial
 |env::r,⟨hk,⟨L,o,hf,hn,ho,hd⟩,hr⟩,hs=>by
  have hL:L∈frs (env::r):=by unfold frs;rw[cj,hf];exact au
  refine⟨hk,⟨L,o,hf,k L hn,(hs L hL).trans ho,hd⟩,sv k hr λb hb=>hs b ?_⟩
  unfold frs at hb ⊢
  rw[cj,hf]
  exact aq _ hb
theorem pJ {M:Model}{A:Around}{E:Value->Shared->Prop}{s:Shared}{base:Heap}{l:List Env}{e L:Addr}{cls a0:Value}{Q:Unit->Shared->Prop}(R:Heap.HeldW base l e cls a0 L s.heap)
  (h:∀ h',Heap.HeldW base l e cls a0 L h'->s.heap.UpToSlots h'->Q () {s with heap:=h'}):wpAny M A (setFlight (.ref e) (some L)) Q E s:=by
 obtain⟨hkb,hen,hl,oe,vs,T,oT,ts,he,Gk,hd,h1,hnT,hTe,hT,hdT,h3⟩:=R
 have KS:3<ts.size:=(br.mp h3).1
 have other:∀ b,b≠T->(s.heap.update T (Obj.mapFields (·.setIfInBounds 3 ((some L).elim Value.none λf=>rawInt f)))).get? b=s.heap.get? b:=
  λb hb=>Heap.get?_update_other _ _ (cB hb)
 have Ax:∀ b o,s.heap.get? b=some o->(∀ vs,o.data≠ .fields vs)->b≠T:=λb o hb hnf q=>by
  rw[q,hT]at hb;injection hb with hb;subst hb;exact hnf ts hdT
 unfold setFlight
 refine ae (wpAny_field he hd h1 ?_)
 rw[av (show(Value.ref T !=Value.none)=true from by simp)]
 refine wpAny_setField hT hdT KS (h _ ⟨λb o hbo=>(other b λq=>by rw[q,hnT]at hbo;cases hbo).trans (hkb b o hbo),hen,
  hl.of_keeps λb o hb hnf=>⟨o,(other b (Ax b o hb hnf)).trans hb,rfl⟩,?_⟩ λb o hb hnf=>⟨o.slots,(other b (Ax b o hb hnf)).trans hb⟩)
 exact⟨oe,vs,T,_,_,(other e (cB hTe)).trans he,Gk,hd,h1,hnT,hTe,Heap.get?_update_self _ hT (Obj.isFreed_of_fields (Obj.data_mapFields hdT _)),Obj.data_mapFields hdT _,by simp[KS]⟩
theorem yU {M:Model}{A:Around}{E:Value->Shared->Prop}{s:Shared}{base:Heap}{l:List Env}{env:Env}{JX:String}{e L:Addr}{cls a0:Value}{Q:Value->Shared->Prop}(R:Heap.HeldW base l e cls a0 L s.heap)(hf:env.frame=some L)
  (h:∀ h',Heap.HeldW base l e cls a0 L h'->s.heap.UpToSlots h'->E (.ref e) {s with heap:=h'}):wpAny M A (passOn JX (.ref e) env:Sem Value) Q E s:=by
 obtain⟨_,_,_,oe,vs,T,oT,ts,he,_,hd,h1,_⟩:=id R
 unfold PySem.passOn
 refine ae (wpAny_field he hd h1 ?_)
 rw[ak (show ¬((Value.ref T==Value.none)=true) from by simp),hf]
 first
  |exact ae (pJ R λh' hh sm=>wpAny_throw (h h' hh sm))
  |exact ae (ao (ae (pJ R λh' hh sm=>wpAny_throw (h h' hh sm))))
section
variable {X:Cx}{pins:List (Addr×Obj)}{σ:St}{H H3:Hp}{s s3:Shared}{scope:Scope}{N:List Str}{own:Nat}{cap:List (Option Nat)}{cl:List (Str×Addr)}{fp:List Addr}{E:XK}
noncomputable def XC (X:Cx)(scope:Scope)(cl:List (Str×Addr))(N:List Str)(fp:List Addr)(s3:Shared)(H3:Hp)(E:XK):Value->Shared->Prop:=λev s'=>∃ (tW:List (Addr×Obj)) (σ':St) (H':Hp) (s0:Shared),Inv (gE X scope cl N fp s3 H3) tW σ' H' s0/\CXr X.prog X.w X.base X.stack H' s0 E ev s'
noncomputable abbrev jL (X:Cx)(scope:Scope)(cl:List (Str×Addr))(N:List Str)(fp:List Addr)(s3:Shared)(H3:Hp)(E:XK):Cx:=(gE X scope cl N fp s3 H3).um (XC X scope cl N fp s3 H3 E)
theorem tX:Passes (CXr X.prog X.w X.base) (jL X scope cl N fp s3 H3 E) E:=λpins σ H s e s' I hx=>⟨pins,σ,H,s,I.nD,hx⟩
theorem BR {ev:Value}{s':Shared}{acc:Value}{Q:Value->Shared->Prop}(I3:Inv X pins σ H3 s3)(f3:∀ b∈fp,nU X pins H3 b)(pH:Di X E)(hx:XC X scope cl N fp s3 H3 E ev s'):
  notedBy (model X.prog X.w) X.A (compEnvC scope cl s3.heap.objs.size X.env) (λx s''=>qL (model X.prog X.w) X.A X.xe Q acc (compEnvC scope cl s3.heap.objs.size X.env) (.error x) s'') ev s':=by
 obtain⟨tW,σ',H',s0,I',e,C,H1,B,rfl,ho,hg,z,q⟩:=hx
 have J:Inv X pins σ H' s0:=comp_back I3 f3 I'
 obtain⟨hst,hfr,pass⟩:=pH
 obtain⟨a0,fl⟩:=z.fly
 have hF:X.A.frames=some (X.env::X.outer):=by rw[<-hst];exact J.ok.frames
 unfold notedBy
 rw[xj (env:=compEnvC scope cl s3.heap.objs.size X.env) (env':=X.env) rfl]
 have fl':=fl
 rw[hst]at fl'
 refine wpAny_looks_onW hF hfr fl' λh1 held sm=>?_
 rw[<-hst]at held
 have hCs:s3.heap.objs.size∉frs X.stack:=λhm=>by
  obtain⟨_,o,ho,_⟩:=I3.stack.mem hm
  exact absurd (ar ho) (cz _)
 obtain⟨m,hns,_⟩:=I'.loc
 have hns:s0.heap.Ns s3.heap.objs.size m:=hns
 obtain⟨oC,es,ep,hoC,hdC,hrC⟩:=id hns
 have hfC:H' s3.heap.objs.size=none:=I'.free
 have hC':=z.un.keep _ oC hoC hfC hCs (by simp)
 have Sg:s'.heap.Ns s3.heap.objs.size m:=⟨oC,es,ep,hC',hdC,hrC⟩
 have KZ:=sm.ns Sg
 have hH1:H1 s3.heap.objs.size=none:=z.un.free _ oC hoC hfC (by simp)
 refine⟨m,KZ,λh' sb=>?_⟩
 have z1:Fl0 X.prog X.w X.base X.stack H' H1 s0.heap B h1:=z.toFl0.step held.1 fl.2.2.1 held.2.2.1 sm
 have sbn:∀ b,b≠s3.heap.objs.size->h'.get? b=h1.get? b:=sb.2
 have hid:∀ (g:Heap) b o,(g.hide s3.heap.objs.size).get? b=some o->g.get? b=some o/\b≠s3.heap.objs.size:=λg b o q=>⟨Heap.of_hide q,λe=>by rw[e,Heap.hide_self]at q;cases q⟩
 have toh:∀ (g:Heap) b o,b≠s3.heap.objs.size->g.get? b=some o->(g.hide s3.heap.objs.size).get? b=some o:=λg b o hb q=>(Heap.hide_ne g hb).trans q
 have z2:Fl0 X.prog X.w X.base X.stack H' H1 (s0.heap.hide s3.heap.objs.size) (B.hide s3.heap.objs.size) h':=by
  refine⟨λb o q=>toh B b o (aD (ar (I3.bk b o q))) (z1.bas b o q),λb u q=>(z1.hok b u q).rf (λc v hc zc=>toh B c v (λe=>?_) zc) (λ_ z=>z) (λ_ _ z=>z),λb o q n hb=>?_,λb o q hb=>?_,?_⟩
  ·rcases hc with r |r
   ·rw[<-r,e,hH1]at q;cases q
   ·rw[e,hH1]at r;cases r
  ·obtain⟨q1,q2⟩:=hid _ b o q
   exact toh B b o q2 (z1.kp b o q1 n hb)
  ·obtain⟨q1,q2⟩:=hid _ b o q
   obtain⟨o',e'⟩:=z1.thr b o q1 hb
   exact⟨o',toh B b o' q2 e'⟩
  ·refine⟨λb o q n hb hx=>?_,λb o q n hb hx=>?_,λb o q n hx=>z1.un.free b o (hid _ b o q).1 n hx,λb o q hx=>?_,z1.un.q9,z1.un.qR,z1.un.ra⟩
   ·obtain⟨q1,q2⟩:=hid _ b o q
    exact(sbn b q2).trans (z1.un.keep b o q1 n hb hx)
   ·obtain⟨q1,q2⟩:=hid _ b o q
    obtain⟨sl,e'⟩:=z1.un.slot b o q1 n hb hx
    exact⟨sl,(sbn b q2).trans e'⟩
   ·obtain⟨q1,q2⟩:=hid _ b o q
    obtain⟨o',e'⟩:=z1.un.there b o q1 hx
    exact⟨o',(sbn b q2).trans e'⟩
 have KG:∀ b o vs,h1.get? b=some o->o.data = .fields vs->b≠s3.heap.objs.size:=λb o vs q d e=>by
  obtain⟨o2,es2,ep2,h2,d2,_⟩:=KZ
  rw[e,h2]at q
  cases q
  rw[d2]at d
  cases d
 have Ih:Heap.HeldW (B.hide s3.heap.objs.size) X.stack e (.ref C) a0 X.env.locals h':=by
  obtain⟨k1,k2,k3,oe,vs,T,oT,ts,he,hc,hd,h1',hnT,hTe,hT,hdT,h3⟩:=held
  have tm:∀ b,B.get? b=none->(B.hide s3.heap.objs.size).get? b=none:=λb hb=>by
   cases q:(B.hide s3.heap.objs.size).get? b with
   |none=>rfl
   |some o=>have:=(hid B b o q).1;rw[hb]at this;cases this
  refine⟨λb o q=>?_,tm _ k2,sv tm k3 λb hb=>sbn b λe=>hCs (e ▸ hb),oe,vs,T,oT,ts,(sbn e (KG e oe vs he hd)).trans he,hc,hd,h1',tm _ hnT,hTe,(sbn T (KG T oT ts hT hdT)).trans hT,hdT,h3⟩
  obtain⟨q1,q2⟩:=hid B b o q
  exact(sbn b q2).trans (k1 b o q1)
 refine yU (s:={s' with heap:=h'}) (base:=B.hide s3.heap.objs.size) (l:=X.stack) Ih hfr λh'' hh sm'=>?_
 have z3:Fl0 X.prog X.w X.base X.stack H' H1 (s0.heap.hide s3.heap.objs.size) (B.hide s3.heap.objs.size) h'':=z2.step hh.1 Ih.2.2.1 hh.2.2.1 sm'
 have IJ:Inv X pins σ H' {s0 with heap:=s0.heap.hide s3.heap.objs.size} :=ou J (TL.Inv.apart I3) hfC ⟨Heap.hide_size _ _,λb hb=>Heap.hide_ne _ hb⟩
 exact pass pins σ H' _ {s' with heap:=h''} e C H1 (B.hide s3.heap.objs.size) IJ ho hg ⟨z3,a0,hh⟩ q
end
section
variable {X:Cx}{pins:List (Addr×Obj)}{σ:St}{H1:Hp}{s2:Shared}{scope:Scope}{N:List Str}{own:Nat}{cap:List (Option Nat)}{cl:List (Str×Addr)}{fp:List Addr}
 {tg iter elt:Expr}{ifs:List Expr}{pos:Pos}{g:TG}{tt:TT}{te:TE}{wi:TI}{E:XK}
theorem Ep {it:Addr}{tn:Nat->Heap->Prop}{J:It}{Q:VK}{Q2:Value->Shared->Prop}{E0:Value->Shared->Prop}(pH:Di X E)(I:Inv X pins σ H1 s2)(T:Turn X.prog X.w X.K tg J fp it tn)(t0:tn 0 s2.heap)
  (f:∀ b∈fp,nU X pins H1 b) (hc:X.calm=true) (C:gp X.env.scope X.N scope N own cap) (ho:uE own g)
  (mT:∀ x c,cl.lookup x=some c->X.env.cells.lookup x=some c) (qQ:∀ y∈scope.names,y.2 = .free->∃ c,cl.lookup y.1=some c)
  (hg:∀ s3 H3,PG (jL X scope cl N fp s3 H3 E) tg g) (ht:∀ s3 H3,zB (jL X scope cl N fp s3 H3 E) ifs tt) (he:∀ s3 H3,PE (jL X scope cl N fp s3 H3 E) elt te)
  (hw:∀ l,H1 l=none->LcW J g tt te cap σ Q l H1)
  (fin:∀ l C s' H',Inv X pins σ H' s'->H' C=none->Apart X pins C->Q (.ref l) H'->∀ h',Heap.SameBut C s'.heap h'->Q2 (.ref l) {s' with heap:=h'}):
  wpAny (model X.prog X.w) X.A (newList []) (λacc s₃=>wpAny (model X.prog X.w) X.A (newFunctionEnv scope X.env.globals cl [] X.env.qual none .none (some X.env)) (λcenv s₄=>
   codeAny (model X.prog X.w) X.A (.compStart (.ListComp elt [⟨tg,iter,ifs,0⟩] scope pos) 0 (.ref it) acc {cenv with scope:=relabel scope X.env}) (qL (model X.prog X.w) X.A X.xe Q2 acc {cenv with scope:=relabel scope X.env}) s₄) E0 s₃) E0 s2:=by
 refine wpAny_newObj_type (wpAny_newFunctionEnv C.ze (by intro y hy;simp at hy) (λh₁ mS mR=>?_) C.kind)
 dsimp only at mS mR ⊢
 obtain⟨W,⟨m0,w0⟩,turn⟩:=hw s2.heap.objs.size I.fresh
 have I3:Inv X pins σ (upd H1 s2.heap.objs.size (.lst [])) {s2 with heap:=s2.heap.push {cls:=.type "list",dict:=none,data:=.seq ([]:List Value).toArray}} :=I.Hk (ys:=[]) (its:=[]) (t':=s2.toks) .nil (aV _)
 generalize hs3:({s2 with heap:=s2.heap.push {cls:=.type "list",dict:=none,data:=.seq ([]:List Value).toArray}} :Shared)=s3 at I3
 have hh3:s3.heap=s2.heap.push {cls:=.type "list",dict:=none,data:=.seq ([]:List Value).toArray} :=by rw[<-hs3]
 rw[<-hh3]at mS mR ⊢
 have e4:({s2 with heap:=h₁,toks:=s2.toks+([]:List (Str×Value)).length} :Shared) = {s3 with heap:=h₁,toks:=s2.toks} :=by rw[<-hs3];rfl
 rw[e4]
 have k4:∀ b u,s3.heap.get? b=some u->h₁.get? b=some u:=λb u e=>mR.extBut b u (aD (ar e)) (aj _ e)
 have k3:∀ b u,s2.heap.get? b=some u->s3.heap.get? b=some u:=λb u e=>by rw[hh3];exact aj _ e
 have hb2:∀ b∈fp,b<s2.heap.objs.size:=λb hb=>by obtain⟨o,e,_⟩:=T.obj _ _ t0 b hb;exact ar e
 have f3:∀ b∈fp,nU X pins (upd H1 s2.heap.objs.size (.lst [])) b:=λb hb=>by
  obtain⟨f0,fr⟩:=f b hb
  exact⟨by rw[fw (aD (hb2 b hb))];exact f0,fr⟩
 have hb3:∀ b∈fp,b<s3.heap.objs.size:=λb hb=>by obtain⟨o,e,_⟩:=T.obj _ _ t0 b hb;exact ar (k3 b o e)
 have I4:=(vW (tk:=s2.toks) I3 C mT qQ (λb hb=>⟨f3 b hb,hb3 b hb⟩) mS k4).um (XC X scope cl N fp s3 (upd H1 s2.heap.objs.size (.lst [])) E)
 generalize hH3:upd H1 s2.heap.objs.size (.lst [])=H3 at *
 have st4:tn 0 h₁:=T.keep _ _ _ t0 λb hb o e=>k4 b o (k3 b o e)
 have fpX:∀ {H':Hp},(∀ b∈fp,H' b=none)->∀ b∈fp,nU (jL X scope cl N fp s3 H3 E) [] H' b:=λ{H'} hn b hb=>by
  obtain⟨f0,f1,f2,f3',f4,f5⟩:=f3 b hb
  refine⟨hn b hb,aD (hb3 b hb),λhz=>?_,.inl hb,λx c e=>f4 x c (mT x c e),λp hp=>absurd (show p∈([]:List (Addr×Obj)) from hp) (by simp)⟩
  rcases ay.mp (I3.oH b hz)with z |z
  ·exact f1 z
  ·exact f2 z
 have loop:codeAny (model X.prog X.w) X.A (.compLoop (.ListComp elt [⟨tg,iter,ifs,0⟩] scope pos) 0 (.ref it) (.ref s2.heap.objs.size) (compEnvC scope cl s3.heap.objs.size X.env)) (qL (model X.prog X.w) X.A X.xe Q2 (.ref s2.heap.objs.size) (compEnvC scope cl s3.heap.objs.size X.env)) {s3 with heap:=h₁,toks:=s2.toks} :=by
  refine zy (XE:=XC X scope cl N fp s3 H3 E) (λn s'=>∃ i acc H',Inv (jL X scope cl N fp s3 H3 E) [] (ju cap σ) H' s'/\tn i s'.heap/\(∀ b∈fp,H' b=none)/\W i n acc H') (λx s' hx=>BR I3 f3 pH hx) ?_ m0 ⟨0,[],H3,I4,st4,λb hb=>(f3 b hb).1,w0⟩
  rintro n s' ⟨i,acc,H',I',st,fr,w⟩
  rcases turn i n acc H' w with⟨stop,q⟩|⟨go,NN,hNN,step⟩
  ·refine thn (T.done (jL X scope cl N fp s3 H3 E) rfl rfl rfl hc i [] s' _ H' (XC X scope cl N fp s3 H3 E) I' (fpX fr) st stop) λr s5 ⟨hr,I5⟩=>?_
   subst hr
   obtain⟨m5,hn5,_⟩:=id I5.loc
   exact⟨m5,hn5,λh' sb=>fin _ _ s5 H' (comp_back I3 f3 I5.nD) I5.free (TL.Inv.apart I3) q h' sb⟩
  ·refine thn (T.item (jL X scope cl N fp s3 H3 E) rfl rfl rfl hc i [] s' _ H' (XC X scope cl N fp s3 H3 E) I' (fpX fr) st go) λr s5 ⟨u,hr,h5⟩=>?_
   subst hr
   refine thn h5 λ_ s6 ⟨x,H6,I6,r6,y6,st6,fr6⟩=>?_
   have I6':=I6.pinned (fpX fr6) (T.obj _ _ st6)
   refine thn (hg s3 H3 _ s6 _ H6 x u _ I6' r6 (ho.own _ _ _ _ (step x H6 y6))) λ_ s7 ⟨σ7,H7,I7,q7,l7,o7⟩=>?_
   have cov:∀ (i:Nat) v,(ju cap σ)[i]? = some (some v)->σ7[i]? = some (some v):=λi v e=>by
    obtain⟨j,c1,c2⟩:=qM e
    by_cases hi:i<own
    ·exact(C.vD hi c1).elim
    ·rw[o7 i (by omega)];exact e
   have back:∀ {H8:Hp}{s8:Shared},Inv (jL X scope cl N fp s3 H3 E) ([]++rm fp s6.heap) σ7 H8 s8->Inv (jL X scope cl N fp s3 H3 E) [] (ju cap σ) H8 s8/\tn (i+1) s8.heap/\∀ b∈fp,H8 b=none:=λ{H8 s8} I8=>by
    refine⟨(Inv.nW (pins:=[]) I8).weak l7.symm cov,T.keep _ _ _ st6 λb hb o e=>(I8.pin (b,o) (aF _ (aF _ (jC hb e)))).1,λb hb=>?_⟩
    obtain⟨o,e,d⟩:=T.obj _ _ st6 b hb
    exact(I8.pin (b,o) (aF _ (aF _ (jC hb e)))).2.1
   refine thn (ht s3 H3 _ s7 σ7 H7 _ I7 q7) λb s8 ⟨H8,I8,q8⟩=>?_
   cases b with
   |false=>
    rw[ak ax]at q8 ⊢
    obtain⟨m',hm,w8⟩:=hNN _ _ q8
    obtain⟨J1,J2,J3⟩:=back I8
    exact⟨m',hm,i+1,acc,H8,J1,J2,J3,w8⟩
   |true=>
    rw[av rfl]at q8 ⊢
    refine thn (he s3 H3 _ s8 σ7 H8 _ I8 q8) λv s9 ⟨y,H9,I9,r9,ha,hz,n9⟩=>?_
    obtain⟨m',hm,w9⟩:=hNN _ _ n9
    refine thn (ko _ s9 σ7 H9 (.ref s2.heap.objs.size) [y] (.ref s2.heap.objs.size) [v] (λ_ H10=>W (i+1) m' (acc ++ [y]) H10) I9 rfl (.cons r9 .nil) ⟨_,acc,y,rfl,rfl,ha,hz,w9⟩) λ_ s10 ⟨_,H10,I10,_,w10⟩=>?_
    obtain⟨J1,J2,J3⟩:=back I10
    exact⟨m',hm,i+1,acc ++ [y],H10,J1,J2,J3,w10⟩
 exact codeAny_compStart_list loop (T.self X.A 0 _ _ _ st4 loop)
theorem Fz (pH:Di X E)(hi:PI X tg iter wi)(hc:X.calm=true)(C:gp X.env.scope X.N scope N own cap)(ho:uE own g)
  (hg:∀ cl fp s3 H3,PG (jL X scope cl N fp s3 H3 E) tg g) (ht:∀ cl fp s3 H3,zB (jL X scope cl N fp s3 H3 E) ifs tt) (he:∀ cl fp s3 H3,PE (jL X scope cl N fp s3 H3 E) elt te)
  (hs:∀ x,foldedSetIterable iter X.env x=pure x:=by intro _;rfl):PE X (.ListComp elt [⟨tg,iter,ifs,0⟩] scope pos) (tLC wi cap g tt te):=by
 intro pins s σ H Q I h
 obtain⟨cl,ecl,mT,qQ⟩:=pf (scope:=scope) (env:=X.env) λy hy hf=>I.ok.has y.1 (C.fre y hy hf)
 rw[eval_ListComp]
 refine qS rfl hs ecl C.kind C.loc (thn (hi pins s σ H _ I h) λxv s1 h1=>thn h1 λitv s2 h2=>?_)
 obtain⟨it,fp,tn,J,H2,e,I2,T,st2,f2,hw⟩:=h2
 subst e
 exact Ep (Q2:=EP X pins σ Q) pH I2 T st2 f2 hc C ho mT qQ (hg cl fp) (ht cl fp) (he cl fp) hw λl Ca s' H' I' nk hP q h'' BO=>⟨.ref l,H',ou I' hP nk BO,rfl,q⟩
end
end TL
namespace TL
open PySem PySem.Spec PyProof.Rows L2
theorem xR {P:Program}{w:World}{base:Heap}{X:Cx} :Passes (CXr P w base) X E0:=λ_ _ _ _ _ _ _ hx=>by
 obtain⟨_,_,_,_,_,_,_,_,q⟩:=hx
 exact q.elim
section
variable {X:Cx}{pins:List (Addr×Obj)}{σ:St}{H:Hp}{s:Shared}{a b:Addr}{kvs:List (List Key×V)}{k:List Key}{v:V}{r:Value}{A:Around}{E:Value->Shared->Prop}
theorem vx {x y n:Str}{i:Int}{u:Value}{k1 k2:Nat}{p1 p2 p3 p4 pos:Pos}(hg:Gl X n)(hm:X.mg n=some u)(r:RelV (.int i) u)(hi:i.natAbs.log2<1920)(hz:x.length<=1000/\y.length<=1000/\(Str.ofString (toString i)).length<=1000)
  (hd:(n==("__debug__" :Str))=false:=by decide):PE X (.JoinedStr [.Constant (.str x) k1 p1,.FormattedValue (.Name n p2) (-1) none p3,.Constant (.str y) k2 p4] pos) (λ_ H Q=>∀ z,Q (.str z) H):=by
 intro pins s σ H Q I q
 obtain⟨t,rfl⟩:=r
 have hl:∀ a b:Str,(a++b).length=a.length+b.length:=strLen_append
 have he:Str.empty.length=0:=rfl
 refine wpAny_JoinedStr ?_
 refine eA ⟨x,_,rfl,by rw[hl,he,aE];omega,?_⟩
 refine wpAny_FormattedValue_plain (qK (I.tok _) hg hm (wpAny_formatField_int hi ⟨_,_,rfl,by rw[hl,hl,he,aE];omega,?_⟩) hd)
 refine eA ⟨y,_,rfl,by rw[hl,hl,hl,he,aE];omega,?_⟩
 refine⟨by rw[hl,hl,hl,he,aE];omega,⟨.str _,H,?_,⟨_,rfl⟩,q _⟩⟩
 exact I.tok _
end
noncomputable abbrev Ln:=Int×List (Int×Int)
structure pQ (l:Ln)(ns:List Int):Prop where
 ends:∀ e∈ns,0<=e/\e<2*l.1
 nd:(ns.map (· / 2)).Nodup
 ch:∀ (i:Nat) x y,ns[i]? = some x->ns[i+1]? = some y->y∈jn l.2 (oth x)
variable {l:Ln}{e:Int}
theorem Ge (ok:gI l){x:Int} :x∈jn l.2 e↔(min e x,max e x)∈l.2:=by
 unfold jn
 rw[GU,aL]
 constructor
 ·rintro(z |z)
  ·obtain⟨p,hp,rfl⟩:=aA.mp z
   obtain⟨h1,h2⟩:=bJ.mp hp
   have h2:p.2=e:=by simpa using h2
   have:=ok.ends p h1
   have e1:(min e p.1,max e p.1)=p:=Prod.ext (by show min e p.1=p.1;omega) (by show max e p.1=p.2;omega)
   rw[e1];exact h1
  ·obtain⟨p,hp,rfl⟩:=aA.mp z
   obtain⟨h1,h2⟩:=bJ.mp hp
   have h2:p.1=e:=by simpa using h2
   have:=ok.ends p h1
   have e1:(min e p.2,max e p.2)=p:=Prod.ext (by show min e p.2=p.1;omega) (by show max e p.2=p.2;omega)
   rw[e1];exact h1
 ·intro h
  by_cases hx:e<=x
  ·have e1:(min e x,max e x)=(e,x):=Prod.ext (by show min e x=e;omega) (by show max e x=x;omega)
   rw[e1]at h
   exact .inr (aA.mpr ⟨(e,x),bJ.mpr ⟨h,by simp⟩,rfl⟩)
  ·have e1:(min e x,max e x)=(x,e):=Prod.ext (by show min e x=x;omega) (by show max e x=e;omega)
   rw[e1]at h
   exact .inl (aA.mpr ⟨(x,e),bJ.mpr ⟨h,by simp⟩,rfl⟩)
theorem CH (ok:gI l){x:Int}(h:x∈jn l.2 e):e∈jn l.2 x:=by
 rw[Ge ok]at h ⊢
 rw[show min x e=min e x by omega,show max x e=max e x by omega];exact h
theorem vU (ok:gI l){x:Int}(h:x∈jn l.2 e):0<=x/\x<2*l.1:=by
 have:=ok.ends _ ((Ge ok).mp h)
 dsimp only at this
 omega
variable {ns:List Int}
theorem zt {x:Int}(h:x∈fr l ns e):x∈jn l.2 e/\x/2∉ns.map (· / 2):=by
 obtain⟨h1,h2⟩:=bJ.mp h
 exact⟨h1,by simpa using h2⟩
theorem pQ.on (ok:gI l)(T:pQ l ns)(hne:ns≠ [])(he:e∈fr l ns (oth (ns.getLastD 0))):pQ l (ns.drop 1 ++ [e]):=by
 obtain⟨h1,h2⟩:=zt he
 have hl:1<=ns.length:=by cases ns with |nil=>exact absurd rfl hne |cons x r=>simp
 refine⟨λx hx=>?_,?_,λi x y hx hy=>?_⟩
 ·rcases aL.mp hx with z |z
  ·exact T.ends x (dz z)
  ·have z:x=e:=by simpa using z
   rw[z];exact vU ok h1
 ·rw[aC,cM]
  refine⟨by rw[cW];exact T.nd.sublist (List.drop_sublist _ _),by simp,λa ha b hb z=>?_⟩
  have hb:b=e/2:=by simpa using hb
  rw[cW]at ha
  exact h2 (by rw[<-hb,<-z];exact dz ha)
 ·have ld:(ns.drop 1).length=ns.length-1:=bp
  by_cases hi:i+1<(ns.drop 1).length
  ·rw[bf hi,bX]at hy
   rw[bf (by omega),bX]at hx
   exact T.ch (1+i) x y hx (by rw[<-hy];congr 1)
  ·have hlt:=(af.mp hy).1
   rw[aG,List.length_singleton]at hlt
   have e1:i+1=(ns.drop 1).length:=by omega
   rw[e1,bq (aw _),dG]at hy
   cases hy
   rw[bf (by omega),bX]at hx
   have e2:ns.getLastD 0=x:=by
    rw[ej,List.getLast?_eq_getElem?,show ns.length-1=1+i by omega,hx];rfl
   rw[e2]at h1
   exact h1
theorem pQ.back (ok:gI l)(T:pQ l ns)(hne:ns≠ [])(he:e∈fr l ns (ns.headD 0)):pQ l (oth e::ns.dropLast):=by
 obtain⟨h1,h2⟩:=zt he
 have hl:1<=ns.length:=by cases ns with |nil=>exact absurd rfl hne |cons x r=>simp
 refine⟨λx hx=>?_,?_,λi x y hx hy=>?_⟩
 ·rcases ay.mp hx with z |z
  ·rw[z]
   have:=vU ok h1
   unfold oth
   omega
  ·exact T.ends x ((List.dropLast_sublist ns).subset z)
 ·rw[aN,bI]
  refine⟨λz=>h2 ?_,?_⟩
  ·rw[FE]at z
   have:=(List.dropLast_sublist ns).map (· / 2)
   exact this.subset z
  ·exact T.nd.sublist ((List.dropLast_sublist ns).map _)
 ·cases i with
  |zero=>
   cases hx
   have hy:ns.dropLast[0]? = some y:=hy
   rw[Cq]
   have hy2:ns[0]? = some y:=by
    have:=(af.mp hy).1
    rw[List.getElem?_dropLast]at hy
    split at hy
    ·exact hy
    ·cases hy
   have e2:ns.headD 0=y:=by cases ns with |nil=>cases hy2 |cons a r=>cases hy2;rfl
   rw[e2]at h1
   exact CH ok h1
  |succ j=>
   have hx:ns.dropLast[j]? = some x:=hx
   have hy:ns.dropLast[j+1]? = some y:=hy
   rw[List.getElem?_dropLast]at hx hy
   split at hx
   ·split at hy
    ·exact T.ch j x y hx hy
    ·cases hy
   ·cases hx
theorem FL {m:Mv}(ok:gI l)(T:pQ l ns)(hne:ns≠ [])(hm:m∈mvs l ns):pQ l m.2/\m.2.length=ns.length/\m.2≠ []:=by
 have hl:1<=ns.length:=by cases ns with |nil=>exact absurd rfl hne |cons x r=>simp
 rcases aL.mp hm with z |z
 ·obtain⟨e,he,rfl⟩:=aA.mp z
  refine⟨T.on ok hne he,?_,λe=>?_⟩
  ·simp only[onM,aG,bp,aH,List.length_nil];omega
  ·simp[onM]at e
 ·obtain⟨e,he,rfl⟩:=aA.mp z
  refine⟨T.back ok hne he,?_,λe=>?_⟩
  ·simp only[wq,aH,bM];omega
  ·simp[wq]at e
noncomputable abbrev Ent:=List Int×Option (List Int×(Str×Int))
noncomputable def okJ (m:Int)(p:Int×Int):Prop:=(0<=p.1/\p.1<2*m)/\(0<=p.2/\p.2<2*m)/\p.1<=p.2/\p.1/2≠p.2/2
noncomputable def gb (l:Ln):Prop:=1<=l.1/\l.1<=40/\l.2.length<=80/\(∀ p∈l.2,okJ l.1 p)/\l.2.Nodup
end TL
namespace TL
open PySem PySem.Spec PyProof.Rows L2
noncomputable def mkS (l:List Nat):Str:=⟨l.toArray⟩
theorem oj (l:List Nat):(mkS l).cps.toList=l:=bR
theorem sW (x:Str):mkS x.cps.toList=x:=by cases x;simp[mkS]
theorem zg (l:List Nat):(mkS l).length=l.length:=by simp[mkS,Str.length]
noncomputable abbrev TF:=St->Hp->Str->(Str->Hp->Prop)->Prop
noncomputable def PF (X:Cx)(es:List Expr)(t:TF):Prop:=
 ∀ (pins:List (Addr×Obj)) (s:Shared) (σ:St) (H:Hp) (acc:Str) (Q:Str->Hp->Prop),Inv X pins σ H s->t σ H acc Q->
  Joins (model X.prog X.w) X.A X.xe (evalEach es X.env) acc (λout s'=>∃ H',Inv X pins σ H' s'/\Q out H') s
section
variable {X:Cx}{e:Expr}{es:List Expr}{te:TE}{tf:TF}{pos:Pos}
noncomputable def tFN:TF:=λ_ H acc Q=>Q acc H
noncomputable def tFC (x:Str)(tf:TF):TF:=λσ H acc Q=>(acc++x).length<=sizeLine/\tf σ H (acc++x) Q
noncomputable def tFV (te:TE)(tf:TF):TF:=λσ H acc Q=>te σ H λv H1=>∃ y,((∃ i:Int,v = .int i/\i.natAbs.log2<1920/\y=Str.ofString (toString i))\/(v = .str y/\y.length<=sizeLine))/\(acc++y).length<=sizeLine/\tf σ H1 (acc++y) Q
theorem yS:PF X [] tFN:=λpins s σ H acc Q I h=>⟨H,I,h⟩
theorem n8 {x:Str}{k:Nat}{p:Pos}(h:PF X es tf):PF X (.Constant (.str x) k p::es) (tFC x tf):=by
 intro pins s σ H acc Q I q
 exact eA ⟨x,_,rfl,q.1,h pins _ σ H _ Q (I.tok _) q.2⟩
theorem sQ {p:Pos}(he:PE X e te)(h:PF X es tf):PF X (.FormattedValue e (-1) none p::es) (tFV te tf):=by
 intro pins s σ H acc Q I q
 show wpAny _ _ (eval (.FormattedValue e (-1) none p) X.env) _ _ s
 refine wpAny_FormattedValue_plain (thn (he pins s σ H _ I q) λu s1 ⟨v,H1,I1,r,y,hy,hz,q1⟩=>?_)
 rcases hy with⟨i,rfl,hi,rfl⟩|⟨rfl,hl⟩
 ·obtain⟨t,rfl⟩:=r
  exact wpAny_formatField_int hi ⟨_,_,rfl,hz,h pins _ σ H1 _ Q (I1.tok _) q1⟩
 ·obtain⟨t,rfl⟩:=r
  exact wpAny_formatField_str ⟨_,_,rfl,hz,h pins _ σ H1 _ Q I1 q1⟩ ⟨_,_,rfl,hz,h pins _ σ H1 _ Q (I1.tok _) q1⟩ hl
theorem uO {v1 v2:Expr}{rest:List Expr}(h:PF X (v1::v2::rest) tf):PE X (.JoinedStr (v1::v2::rest) pos) (λσ H Q=>tf σ H Str.empty λz H1=>z.length<=sizeLine/\Q (.str z) H1):=by
 intro pins s σ H Q I q
 refine wpAny_JoinedStr ?_
 have:=h pins s σ H Str.empty (λz H1=>z.length<=sizeLine/\Q (.str z) H1) I q
 refine vS ?_ this
 rintro out s' ⟨H',I',hz,q'⟩
 exact⟨hz,.str out,H',I'.tok _,⟨_,rfl⟩,q'⟩
where
 vS {M:Model}{A:Around}{E:Value->Shared->Prop}{Q Q':Str->Shared->Prop} (hq:∀ o s,Q o s->Q' o s):∀ {parts:List (Sem Value)}{acc:Str}{s:Shared},Joins M A E parts acc Q s->Joins M A E parts acc Q' s
  |[],acc,s,h=>hq _ _ h
  |x::rest,acc,s,h=>aR h (λv s1 ⟨y,t,e,hz,h1⟩=>⟨y,t,e,hz,vS hq h1⟩) λ_ _ x=>x
end
theorem Vals.strs:∀ {ts:List Str}{its:List Value},Vals (ts.map V.str) its->∃ l:List (Str×Tok),its=strValues l/\l.map (·.1)=ts
 |[],_,.nil=>⟨[],rfl,rfl⟩
 |x::ts,_,.cons r t=>by
  obtain⟨l,rfl,e⟩:=Vals.strs t
  obtain⟨k,rfl⟩:=r
  exact⟨(x,k)::l,rfl,by rw[aN,e]⟩
theorem xB:∀ l:List (Str×Tok),Vals ((l.map (·.1)).map V.str) (strValues l)
 |[]=>.nil
 |p::l=>.cons ⟨p.2,rfl⟩ (xB l)
theorem zj {sep:Str}{ts:List Str}(h1:∀ y∈ts,y.length<=1000)(h2:ts.length<=1000)(h3:sep.length<=10):JoinOk sep ts=true:=by
 unfold JoinOk
 rw[PySem.StrLaws.joinTotal]
 have h:=PySem.StrLaws.sumLen_le ts h1
 have h4:ts.length*sep.length<=1000*10:=Nat.mul_le_mul h2 h3
 have h5:ts.length*1000<=1000*1000:=Nat.mul_le_mul_right _ h2
 unfold Builtin.Str.tooLong
 rw[aE]
 simp
 omega
section
variable {X:Cx}
theorem zf:MtR X "str.join" (λx vs H Q=>∃ sep a ts,x = .str sep/\vs = [.ref a]/\SqL X.K H a (ts.map V.str)/\(∀ y∈ts,y.length<=1000)/\ts.length<=1000/\sep.length<=10/\Q (.str (Str.join sep ts)) H):=by
 intro pins s σ H x vs v us Q I rx rv h
 obtain⟨sep,a,ts,rfl,rfl,ha,h1,h2,h3,q⟩:=h
 obtain⟨t,rfl⟩:=rx
 obtain⟨u,rfl,ru⟩:=rv.one
 cases ru
 obtain⟨its,r,p,hz⟩:=I.list ha
 obtain⟨l,rfl,e⟩:=Vals.strs r
 refine SC.join (texts:=ts) p.isList e (zj h1 h2 h3) λt' k=>⟨.str _,H,I.tok _,⟨_,rfl⟩,?_⟩
 show Q (.str (Builtin.Str.glued sep ts)) H
 rw[PySem.StrLaws.glued_eq_join]
 exact q
theorem split_len (z y:Str)(hy:1<=y.length):(Txt.split z y).length<=z.length+1/\(Builtin.Str.partsBetween z (Builtin.Str.occurrences z y 0 z.length (z.length+1)) y.length).length<=z.length+2:=by
 have h1:=PySem.StrLaws.occ_length_le z y 0 z.length (z.length+1)
 have h2:(Builtin.Str.partsBetween z (Builtin.Str.occurrences z y 0 z.length (z.length+1)) y.length).length<=z.length+2:=by
  unfold Builtin.Str.partsBetween
  simp
  omega
 refine⟨?_,h2⟩
 have:∀ (ws:List Str),ws≠ []->ws.length<=(Str.join y ws).length+1:=by
  intro ws
  induction ws with
  |nil=>intro h;exact absurd rfl h
  |cons w r ih=>
   intro _
   cases r with
   |nil=>show 1<=w.length+1;omega
   |cons w' r'=>
    have:=ih (by simp)
    show(w'::r').length+1<=(w++y++Str.join y (w'::r')).length+1
    rw[PySem.Str.length_append,PySem.Str.length_append]
    omega
 by_cases c:Txt.split z y = []
 ·rw[c];exact aV _
 ·have h:=this _ c
  rw[cy]at h
  exact h
theorem mP:MtR X "str.split" (λx vs H Q=>∃ z y,x = .str z/\vs = [.str y]/\1<=y.length/\z.length<=100000/\∀ p,H p=none->Q (.ref p) (upd H p (.lst ((Txt.split z y).map V.str)))):=by
 intro pins s σ H x vs v us Q I rx rv h
 obtain⟨z,y,rfl,rfl,hy,hz,q⟩:=h
 obtain⟨t,rfl⟩:=rx
 obtain⟨u,rfl,ru⟩:=rv.one
 obtain⟨tu,rfl⟩:=ru
 have hy0:(y.length==0)=false:=by simp;omega
 have hx:z.length<=sizeLine:=by rw[aE];omega
 have hl:=split_len z y hy
 have hn:(Builtin.Str.partsBetween z (Builtin.Str.occurrences z y 0 z.length (z.length+1)) y.length).length<=sizeLine:=by rw[aE];omega
 have fin:∀ (l:List (Str×Tok)) (tk:Nat),l.map (·.1)=Txt.split z y->EP X pins σ Q (.ref s.heap.objs.size) {s with toks:=tk,heap:=s.heap.push {cls:=.type "list",data:=.seq (strValues l).toArray}} :=λl tk e=>by
  refine⟨.ref _,_,I.laid (t':=tk) (o:=.lst ((Txt.split z y).map V.str)) (λb ob q=>aj _ q) (aw _) ⟨?_,strValues l,0,?_,aM _ rfl⟩,rfl,q _ I.fresh⟩
  ·rw[aa,aE];omega
  ·rw[<-e];exact xB l
 cases h1:(decide (z.length<y.length)||decide (Builtin.Str.strKind z<Builtin.Str.strKind y))
 ·cases hf:(Builtin.Str.occurrences z y 0 z.length (z.length+1)).isEmpty
  ·refine dF bg (dE _ _ _) eG (eB _ _) (meets_str_split_sep z y t tu h1 hy0 hf hx hn) ?_
   show EP X pins σ Q _ {s with toks:=_,heap:=s.heap.push {cls:=.type "list",data:=.seq (strsFrom s.toks (Builtin.Str.partsBetween z (Builtin.Str.occurrences z y 0 z.length (z.length+1)) y.length)).toArray}}
   rw[strsFrom_eq]
   exact fin _ _ ((numbered_texts _ _).trans ((ak (ne_true_of_eq_false h1)).trans (ak (ne_true_of_eq_false hf))).symm)
  ·refine dF bg (dE _ _ _) eG (eB _ _) (meets_str_split_not_found z y t tu h1 hy0 hf) ?_
   exact fin [(z,t)] s.toks ((ak (ne_true_of_eq_false h1)).trans (av hf)).symm
 ·refine dF bg (dE _ _ _) eG (eB _ _) (meets_str_split_cannot_occur z y t tu h1) ?_
  exact fin [(z,t)] s.toks (av h1).symm
end
section
variable {prog:Program}{w:World}{A:Around}{E:Value->Shared->Prop}{s:Shared}
theorem tF {it l:Addr}{items:Array Value}(hne:l≠it):∀ (n i:Nat) (s:Shared) (Q:List Value->Shared->Prop),s.heap.IsListIter it l i->s.heap.IsList l items->i+n<=items.size->
  (∀ h',h'.IsListIter it l (i+n)->Heap.SameBut it s.heap h'->Q ((items.toList.drop i).take n) {s with heap:=h'})->wpAny (model prog w) A (draw (.ref it) n) Q E s
 | 0,i,s,Q,hit,_,_,hQ=>by
  show wpAny _ _ (pure []) Q E s
  exact ao (by simpa using hQ s.heap hit (Heap.SameBut.refl ..))
 |n+1,i,s,Q,hit,hl,hle,hQ=>by
  have hlt:i<items.size:=by omega
  show wpAny _ _ (pyNext (.ref it) >>= _) Q E s
  refine ae (wpAny_pyNext_list_item hit hl (x:=items[i]) (by simp[hlt]) λh₁ v5 hs₁=>?_)
  refine ae (bc (tF hne n (i+1) _ _ v5 (hl.extBut hs₁.extBut hne) (by omega) λh₂ Jy hs₂=>ao ?_))
  have hd:items.toList.drop i=items[i]::items.toList.drop (i+1):=by simp[el,hlt]
  have:=hQ h₂ (by rw[show i+(n+1)=i+1+n by omega];exact Jy) (hs₁.trans hs₂)
  rw[hd,List.take_succ_cons]at this
  exact this
theorem sJ {l:Addr}{items:Array Value}{Q:List Value->Shared->Prop}(hh:A.handled=none)(hl:s.heap.IsList l items)
  (hQ:∀ h',Heap.ExtBut s.heap.objs.size s.heap h'->Q items.toList {s with heap:=h'}):wpAny (model prog w) A (unpackItems (.ref l) items.size none) Q E s:=by
 have hlt:l≠s.heap.objs.size:=by obtain⟨o,ho,_⟩:=hl;exact aD (ar ho)
 unfold unpackItems
 refine ae ?_
 ·unfold notIterableAtAll
  refine ae (dZ hl.typeIs slot_list_iter.lookup ?_)
  refine ao ?_
  simp only[aX,cb]
  refine ae (bc (dw hl ?_))
  refine ae (bc (tF hlt items.size 0 _ _ ⟨_,aM _ rfl,rfl,rfl⟩ (hl.push _) (by omega) λh₁ v5 hs₁=>?_))
  have lS:List.take items.size (List.drop 0 items.toList)=items.toList:=by
   rw[List.drop_zero];exact bh (by simp)
  rw[lS]
  rw[ak (by simp)]
  have hl₁:h₁.IsList l items:=(hl.push _).extBut hs₁.extBut hlt
  refine ae (bc (wpAny_pyNext_list_end hh v5 hl₁ (by simp) λh₂ he₂=>?_))
  simp only[Option.isSome_none,aX,cb]
  refine ao (hQ h₂ λb o hb e=>he₂ b o hb (hs₁.extBut b o hb (aj _ e)))
end
section
variable {X:Cx}{pos:Pos}
noncomputable def Sq (K:PySem.W.Frag)(n:Nat)(t:TGs):TG:=λv σ H Q=>∃ a xs,v = .ref a/\SqL K H a xs/\xs.length=n/\t xs σ H Q
theorem Fu {es:List Expr}{k:Nat}{t:TGs}{n:Nat}(hc:X.calm=true)(h:PGs X es t)
  (hn:(assignEach es X.env).length=n:=by rfl) (hst:(assignEach es X.env).findIdx? (·.1)=none:=by rfl):PG X (.Tuple es k pos) (Sq X.K n t):=by
 intro pins s σ H v u Q I r hw
 obtain⟨a,xs,e1,hq,hl,hw⟩:=hw
 subst e1
 cases r
 obtain⟨its,rv,ht,hz⟩:=I.list hq
 have hsz:its.toArray.size=n:=by rw[aJ,<-rv.length];exact hl
 rw[assign_Tuple]
 refine ae (cn ?_)
 unfold unpack
 rw[hn,hst,<-hsz]
 refine ae (bc (sJ (I.ok.hd hc) ht.isList λh' hx=>?_))
 have I1:Inv X pins σ H {s with heap:=h'} :=I.kept (t':=s.toks) λb o e=>hx b o (aD (ar e)) e
 exact h pins _ σ H xs _ Q I1 (by simpa using rv) hw
end
section
theorem WalksS.shift {prog:Program}{w:World}{A:Around}{I:Addr}{fp wr:List Addr}{G:Array GenState->Array GenState->Prop}{n:Nat}{P:Nat->Value->Prop}{St:Nat->Shared->Prop}
  (W:WalksS prog w A I fp wr G n P St) (k:Nat) (hk:k<=n):WalksS prog w A I fp wr G (n-k) (λi=>P (i+k)) (λi=>St (i+k)) where
 sub:=W.sub
 grefl:=W.grefl
 gtrans:=W.gtrans
 frame:=λi s h' tk st htk hb=>W.frame (i+k) s h' tk st htk hb
 item:=λi s Q E hi st hQ=>W.item (i+k) s Q E (by omega) st λv s' hP st' hm=>hQ v s' hP (by rw[show i+1+k=i+k+1 by omega];exact st') hm
 done:=λs Q E st hQ=>W.done s Q E (by have e:n-k+k=n:=(by omega);rw[e]at st;exact st) hQ
 self:=λi s Q E st hQ=>W.self (i+k) s Q E st hQ
variable {prog:Program}{w:World}{A:Around}{E:Value->Shared->Prop}{s:Shared}
theorem zk {items acc:Array Value}{k n:Nat}(h:ItemsOf (λi v=>items[i+k]? = some v) acc n)(hn:n=items.size-k):acc.toList=items.toList.drop k:=by
 refine List.ext_getElem? λj=>?_
 rw[bX,bE,bE]
 by_cases hj:j<acc.size
 ·rw[bt hj]
  have:=h.2 j _ (bt hj)
  rw[Nat.add_comm k j,this]
 ·rw[Array.getElem?_eq_none (by omega),Array.getElem?_eq_none (by have:=h.1;omega)]
theorem rE {l:Addr}{x:Value}{r:List Value}{Q:List Value->Shared->Prop}(hh:A.handled=none)(hl:s.heap.IsList l (x::r).toArray)(hz:r.length<=200000)
  (hQ:∀ (h':Heap) (tk:Nat),(∀ b o,s.heap.get? b=some o->h'.get? b=some o)->Q [x,.ref h'.objs.size] {s with heap:=h'.push {cls:=.type "list",data:=.seq r.toArray},toks:=tk}):
  wpAny (model prog w) A (unpackItems (.ref l) 2 (some 1)) Q E s:=by
 have hls:l<s.heap.objs.size:=by obtain⟨o,ho,_⟩:=hl;exact ar ho
 have hlt:l≠s.heap.objs.size:=aD hls
 have hsz:(x::r).toArray.size=r.length+1:=by simp
 unfold unpackItems
 refine ae ?_
 unfold notIterableAtAll
 refine ae (dZ hl.typeIs slot_list_iter.lookup ?_)
 refine ao ?_
 simp only[aX,cb]
 refine ae (bc (dw hl ?_))
 refine ae (bc (tF hlt 1 0 _ _ ⟨_,aM _ rfl,rfl,rfl⟩ (hl.push _) (by omega) λh₁ v5 hs₁=>?_))
 have e1:List.take 1 (List.drop 0 (x::r).toArray.toList) = [x]:=by simp
 rw[e1]
 show wpAny _ _ (if[x].length<1 then _ else _) _ _ _
 rw[ak (by simp)]
 have hl₁:h₁.IsList l (x::r).toArray:=(hl.push _).extBut hs₁.extBut hlt
 have R9:h₁.objs.size=s.heap.objs.size+1:=by have:=hs₁.1;rw[this];exact cY _ _
 have Jv:l≠s.heap.objs.size:=hlt
 refine ae (bc (wpAny_collect_iter (T:= "list_iterator") (I:=s.heap.objs.size) (.inr (.inr (.inl rfl))) (WalksS.shift ((Walks.list (by simp[hh]) s.heap.objs.size l Jv (x::r).toArray).toS) 1 (by omega)) (λi s' st=>st.1.typeIs) ⟨v5,hl₁⟩ ?_ (by simp) ?_ (by rw[hsz,aE];omega)))
 ·intro b hb
  show b<h₁.objs.size
  rw[R9]
  simp only[ay,aW,b9]at hb
  rcases hb with rfl |rfl
  ·exact eI _
  ·exact ez hls
 intro s' acc hm Sn
 have e2:=zk (k:=1) Sn (by rw[hsz])
 have e3:(x::r).toArray.toList.drop 1=r:=by simp
 rw[e3]at e2
 rw[e2]
 show wpAny _ _ (if r.length<0 then _ else _) _ _ _
 rw[ak (by omega)]
 obtain⟨h',g',d',tk',os'⟩:=s'
 have eg:g'=s.gens:=hm.gens
 have ed:d'=s.drawn:=hm.drawn
 have eo:os'=s.os:=hm.os
 subst eg;subst ed;subst eo
 have e4:List.take (r.length-0) r=r:=bh (by omega)
 have e5:List.drop (r.length-0) r = []:=List.drop_of_length_le (by omega)
 show wpAny _ _ (newList (List.take (r.length-0) r) >>= λv=>pure ([x] ++ [v]++List.drop (r.length-0) r)) _ _ _
 rw[e4,e5]
 refine ae (wpAny_newList ?_ (by rw[aE];omega))
 refine ao (hQ h' tk' λb o e=>?_)
 have hb:=ar e
 refine hm.heap b o ?_ (hs₁.extBut b o (aD hb) (aj _ e))
 simp only[ay,aW,b9]
 exact aD hb
end
section
variable {X:Cx}{pos:Pos}
noncomputable def JD (K:PySem.W.Frag)(t:TGs):TG:=λv σ H Q=>∃ a x xs,v = .ref a/\SqL K H a (x::xs)/\xs.length<=200000/\∀ p,H p=none->t [x,.ref p] σ (upd H p (.lst xs)) Q
theorem Fs {e:Expr}{t:TG}{u:TGs}{es:List Expr}{p:Pos}(h1:PG X e t)(h2:PGs X es u)
  (hs:(assignEach (.Starred e p::es) X.env).map (·.2)=assign e X.env::(assignEach es X.env).map (·.2):=by rfl):PGs X (.Starred e p::es) (AU t u):=by
 intro pins s σ H vs us Q I r h
 obtain⟨v,vr,e1,h⟩:=h
 subst e1
 cases r with
 |cons r rr=>
  rw[hs]
  refine assignInOrder_cons (thn (h1 pins s σ H _ _ _ I r h) λ_ s1 ⟨σ1,H1,I1,q1⟩=>?_)
  exact h2 pins s1 σ1 H1 _ _ Q I1 rr q1
theorem Ft {es:List Expr}{k:Nat}{t:TGs}(hc:X.calm=true)(h:PGs X es t)
  (hn:(assignEach es X.env).length=2:=by rfl) (hst:(assignEach es X.env).findIdx? (·.1)=some 1:=by rfl):PG X (.Tuple es k pos) (JD X.K t):=by
 intro pins s σ H v u Q I r hw
 obtain⟨a,x,xs,e1,hq,hl,hw⟩:=hw
 subst e1
 cases r
 obtain⟨its,rv,ht,hz⟩:=I.list hq
 cases rv with
 |@cons _ ux _ uxs rx rxs=>
  have hxl:=rxs.length
  rw[assign_Tuple]
  refine ae (cn ?_)
  unfold unpack
  rw[hn,hst]
  refine ae (bc (rE (I.ok.hd hc) ht.isList (by omega) λh' tk hk=>?_))
  have I1:Inv X pins σ H {s with heap:=h',toks:=tk} :=I.kept hk
  have I2:=I1.laid (a:=h'.objs.size) (o:=.lst xs) (h':=h'.push {cls:=.type "list",data:=.seq uxs.toArray}) (t':=tk) (λb ob q=>aj _ q) (aw _) ⟨by rw[aH]at hz;omega,uxs,0,rxs,aM _ rfl⟩
  exact h pins _ σ _ [x,.ref h'.objs.size] [ux,.ref h'.objs.size] Q I2 (.cons rx (.cons rfl .nil)) (hw _ (I1.hok.fresh (aw _)))
end
theorem Ae (z:Str):(Builtin.Str.strSliceIndices none (some (-1)) 1 z.length).filterMap (z.cps[·]?)=z.cps.toList.dropLast:=by
 have e:Builtin.Str.strSliceIndices none (some (-1)) 1 z.length=Builtin.Str.strSliceIndices (some ((0:Nat):Int)) (some ((z.length-1:Nat):Int)) 1 z.length:=by
  unfold Builtin.Str.strSliceIndices
  dsimp only
  have h1:((1:Int)>0):=by decide
  simp only[h1,df]
  have e1:max (0:Int) (min ((0:Nat):Int) (z.length:Int))=0:=by omega
  have e2:(if(-1:Int)<0 then -1+(z.length:Int)else -1)=(z.length:Int)-1:=by rw[av (by decide)];omega
  have e3:(if((z.length-1:Nat):Int)<0 then((z.length-1:Nat):Int)+(z.length:Int)else((z.length-1:Nat):Int))=((z.length-1:Nat):Int):=by rw[ak (by omega)]
  have e4:(if((0:Nat):Int)<0 then((0:Nat):Int)+(z.length:Int)else((0:Nat):Int))=0:=by rw[ak (by omega)];rfl
  rw[e2,e3,e4]
  have e5:max (0:Int) (min ((z.length:Int)-1) (z.length:Int))=max (0:Int) (min ((z.length-1:Nat):Int) (z.length:Int)):=by omega
  have e6:max (0:Int) (min 0 (z.length:Int))=0:=by omega
  rw[e5,e6]
 rw[e,PySem.StrLaws.sliced_plain z (aV _) (by omega),List.drop_zero,List.dropLast_eq_take]
 simp[Str.length]
section
variable {X:Cx}
noncomputable def GX:V->Option Int->Option Int->Hp->VK->Prop:=λx lo hi H Q=>∃ z,x = .str z/\lo=none/\hi=some (-1)/\z.length<=sizeLine/\Q (.str (mkS z.cps.toList.dropLast)) H
theorem vf:SlR X GX:=by
 intro pins s σ H x v vl vu lo hi sl Q I rx hs pl pu h
 obtain⟨z,rfl,rfl,rfl,hz,q⟩:=h
 obtain⟨t,rfl⟩:=rx
 cases pl
 cases pu with
 |int i tk=>
  refine⟨"str",_,slot_str_getitem.lookup,dE _ _ _,?_⟩
  refine cI (l:=none) (u:=some (-1,tk)) (st:=none) hs rfl ?_
  unfold sliceMade
  have e:(⟨((slicePicked z none (some (-1,tk)) none).filterMap (z.cps[·]?)).toArray⟩:Str)=mkS z.cps.toList.dropLast:=by
   unfold mkS slicePicked
   congr 2
   exact Ae z
  rw[e]
  refine eh ?_
  by_cases c:(((none:Option (Int×Tok)).map (·.1)).getD 1==1&&(slicePicked z none (some (-1,tk)) none).length==z.length)=true
  ·rw[av c]
   have hz0:z=mkS z.cps.toList.dropLast:=by
    have c2:(slicePicked z none (some (-1,tk)) none).length=z.length:=by
     rw[bN]at c;exact eq_of_beq c.2
    have hl:(Builtin.Str.strSliceIndices none (some (-1)) 1 z.length).length=z.length:=c2
    have:z.cps.toList.dropLast.length=z.cps.toList.length->z=mkS z.cps.toList.dropLast:=λh=>by
     rw[bM]at h
     have h0:z.cps.toList.length=0:=by omega
     have:z.cps.toList = []:=cD h0
     rw[this]
     rw[<-sW z,this];rfl
    refine this ?_
    have e2:Builtin.Str.strSliceIndices none (some (-1)) 1 z.length=Builtin.Str.strSliceIndices (some ((0:Nat):Int)) (some ((z.length-1:Nat):Int)) 1 z.length:=by
     unfold Builtin.Str.strSliceIndices
     dsimp only
     have h1:((1:Int)>0):=by decide
     simp only[h1,df]
     have e2:(if(-1:Int)<0 then -1+(z.length:Int)else -1)=(z.length:Int)-1:=by rw[av (by decide)];omega
     have e3:(if((z.length-1:Nat):Int)<0 then((z.length-1:Nat):Int)+(z.length:Int)else((z.length-1:Nat):Int))=((z.length-1:Nat):Int):=by rw[ak (by omega)]
     have e4:(if((0:Nat):Int)<0 then((0:Nat):Int)+(z.length:Int)else((0:Nat):Int))=0:=by rw[ak (by omega)];rfl
     rw[e2,e3,e4]
     have e5:max (0:Int) (min ((z.length:Int)-1) (z.length:Int))=max (0:Int) (min ((z.length-1:Nat):Int) (z.length:Int)):=by omega
     have e6:max (0:Int) (min 0 (z.length:Int))=0:=by omega
     rw[e5,e6]
    rw[e2,PySem.StrLaws.strSliceIndices_plain (aV _) (by omega),aa,di]at hl
    have hzl:z.cps.toList.length=z.length:=by simp[Str.length]
    rw[bM]
    omega
   rw[<-hz0]at q
   exact⟨hz,λt' k=>⟨.str z,H,I.tok _,⟨_,rfl⟩,q⟩⟩
  ·rw[ak c]
   refine⟨?_,λt' k=>⟨.str _,H,I.tok _,⟨_,rfl⟩,q⟩⟩
   rw[zg,bM]
   have hzl:z.cps.toList.length=z.length:=by simp[Str.length]
   omega
end
noncomputable def Its (x:Str):It:=⟨λi _=>i<x.cps.size,λi H v H'=>H'=H/\∃ c,x.cps[i]? = some c/\v = .str ⟨#[c]⟩,λi _=>x.cps.size<=i⟩
theorem Du {P:Program}{w:World}{K:PySem.W.Frag}{tg:Expr}(x:Str)(t:Tok)(it:Addr):Turn P w K tg (Its x) [it] it (λi h=>h.IsStrIter it "str_ascii_iterator" x t i) where
 mem:=by simp
 obj:=λi h st b hb=>by
  have e:b=it:=by simpa using hb
  subst e
  obtain⟨o,e,c,d⟩:=st
  exact⟨o,e,λv z=>by rw[d]at z;cases z⟩
 keep:=λi h h' st k=>let ⟨o,ho,r⟩:=st;⟨o,k it (by simp) o ho,r⟩
 item:=by
  intro X hP hw hK hc i pins s σ H E I hf st hg
  subst hP hw hK
  have hg:i<x.cps.size:=hg
  obtain⟨f0,f1,f2,f3,f4,f5⟩:=hf it (by simp)
  refine wpAny_pyNext_ascii_item st (c:=x.cps[i]) (by simp[hg]) λh' st' sb=>?_
  have I1:Inv X pins σ H {s with heap:=h',toks:=s.toks+1} :=I.turned (t':=s.toks+1) (λb o hb e=>(sb.2 b hb).trans e) f0 f1 f3 f4 f5
  obtain⟨o,e,c,d⟩:=id st'
  exact⟨_,rfl,AS (s:={s with heap:=h',toks:=s.toks+1}) e c d (by decide) ⟨.str ⟨#[x.cps[i]]⟩,H,I1,⟨_,rfl⟩,⟨rfl,_,by simp[hg],rfl⟩,st',λb hb=>(hf b hb).1⟩⟩
 done:=by
  intro X hP hw hK hc i pins s σ H E I hf st hg
  subst hP hw hK
  have hg:x.cps.size<=i:=hg
  obtain⟨f0,f1,f2,f3,f4,f5⟩:=hf it (by simp)
  exact wpAny_pyNext_ascii_end (I.ok.hd hc) st (by simp[hg]) λh' eb=>⟨rfl,I.turned (t':=s.toks) (λb o hb e=>eb b o hb e) f0 f1 f3 f4 f5⟩
 self:=λ_ _ _ _ _ st h=>wpAny_pyIter_striter_ascii st h
theorem Ds {P:Program}{w:World}{K:PySem.W.Frag}{tg:Expr}(x:Str)(t:Tok)(it:Addr):Turn P w K tg (Its x) [it] it (λi h=>h.IsStrIter it "str_iterator" x t i) where
 mem:=by simp
 obj:=λi h st b hb=>by
  have e:b=it:=by simpa using hb
  subst e
  obtain⟨o,e,c,d⟩:=st
  exact⟨o,e,λv z=>by rw[d]at z;cases z⟩
 keep:=λi h h' st k=>let ⟨o,ho,r⟩:=st;⟨o,k it (by simp) o ho,r⟩
 item:=by
  intro X hP hw hK hc i pins s σ H E I hf st hg
  subst hP hw hK
  have hg:i<x.cps.size:=hg
  obtain⟨f0,f1,f2,f3,f4,f5⟩:=hf it (by simp)
  refine wpAny_pyNext_wide_item st (c:=x.cps[i]) (by simp[hg]) λh' st' sb=>?_
  have I1:Inv X pins σ H {s with heap:=h',toks:=s.toks+1} :=I.turned (t':=s.toks+1) (λb o hb e=>(sb.2 b hb).trans e) f0 f1 f3 f4 f5
  obtain⟨o,e,c,d⟩:=id st'
  exact⟨_,rfl,AS (s:={s with heap:=h',toks:=s.toks+1}) e c d (by decide) ⟨.str ⟨#[x.cps[i]]⟩,H,I1,⟨_,rfl⟩,⟨rfl,_,by simp[hg],rfl⟩,st',λb hb=>(hf b hb).1⟩⟩
 done:=by
  intro X hP hw hK hc i pins s σ H E I hf st hg
  subst hP hw hK
  have hg:x.cps.size<=i:=hg
  obtain⟨f0,f1,f2,f3,f4,f5⟩:=hf it (by simp)
  exact wpAny_pyNext_wide_end (I.ok.hd hc) st (by simp[hg]) λh' eb=>⟨rfl,I.turned (t':=s.toks) (λb o hb e=>eb b o hb e) f0 f1 f3 f4 f5⟩
 self:=λ_ _ _ _ _ st h=>wpAny_pyIter_striter_wide st h
section
variable {X:Cx}{tg e:Expr}{te:TE}
noncomputable def R7 (te:TE):TI:=λσ H R=>te σ H λv H1=>∃ x,v = .str x/\R (Its x) H1
theorem Fq (he:PE X e te):PI X tg e (R7 te):=by
 intro pins s σ H R I h
 refine thn (he pins s σ H _ I h) λu s1 ⟨v,H1,I1,r,x,ex,q⟩=>?_
 subst ex
 obtain⟨t,rfl⟩:=r
 have fp:∀ (o:Obj) (b:Addr),b∈ [s1.heap.objs.size]->nU X pins H1 b:=λo b hb=>by
  have e:b=s1.heap.objs.size:=by simpa using hb
  subst e
  exact I1.Gp (aw _) (I1.hok.fresh (aw _))
 cases ha:x.cps.all (· < 128)
 ·refine wpAny_pyIter_wide ha ?_
  exact⟨s1.heap.objs.size,[s1.heap.objs.size],_,_,H1,rfl,I1.kept (t':=s1.toks) (λb o e=>aj _ e),Ds x t _,⟨_,aM _ rfl,rfl,rfl⟩,fp default,q⟩
 ·refine wpAny_pyIter_ascii ha ?_
  exact⟨s1.heap.objs.size,[s1.heap.objs.size],_,_,H1,rfl,I1.kept (t':=s1.toks) (λb o e=>aj _ e),Du x t _,⟨_,aM _ rfl,rfl,rfl⟩,fp default,q⟩
theorem F9 {x:Str}{H1:Hp} :JS (Its x) x.cps.size H1 (λi v=>∃ c,x.cps[i]? = some c/\v = .str ⟨#[c]⟩):=
 ⟨λi H s hi=>hi,λi H v H' s hi y=>y,λH s=>aw _⟩
end
theorem yi {X:Cx} :jY X (.type "int") (λxs H Q=>∃ z n,xs = [.str z]/\PySem.intText? z=some n/\z.length<=640/\Q (.int n) H):=by
 intro pins s σ H xs us Q I r h
 obtain⟨z,n,rfl,hn,hl,q⟩:=h
 obtain⟨u,rfl,ru⟩:=vals1 r
 obtain⟨t,rfl⟩:=ru
 exact PySem.W.KIN.call_text hn hl ⟨.int n,H,I.tok _,⟨_,rfl⟩,q⟩
end TL
namespace TS
open PySem
noncomputable def lcg:Nat->Nat->Nat
 | 0,x=>x
 |d+1,x=>5*lcg d x+1
theorem zi (d:Nat):∀ e x,lcg (e+d) x=lcg e (lcg d x)
 | 0,x=>by rw[Nat.zero_add];rfl
 |e+1,x=>by rw[Nat.add_right_comm];show 5*lcg (e+d) x+1=5*lcg e (lcg d x)+1;rw[zi d e x]
theorem CA:∀ k,∃ q,q%2=1/\∀ x,lcg (2 ^ k) x=x+2 ^ k*q*(4*x+1)
 | 0=>⟨1,rfl,λx=>by show 5*x+1=_;omega⟩
 |k+1=>by
  obtain⟨q,hq,h⟩:=CA k
  refine⟨q*(1+2*2 ^ k*q),?_,λx=>?_⟩
  ·have e:q*(1+2*2 ^ k*q)=q+2*(q*2 ^ k*q):=by
    rw[Nat.mul_add,Nat.mul_one,bO 2,Nat.mul_left_comm q 2,bO q]
   rw[e,Nat.add_mul_mod_self_left];exact hq
  ·rw[dH,Nat.mul_two,zi,h x,h]
   generalize 2 ^ k=p
   have e:∀ y,p*q*(4*(x+y)+1)=p*q*(4*x+1)+4*(p*q*y):=λy=>by
    rw[show 4*(x+y)+1=(4*x+1)+4*y by omega,Nat.mul_add,Nat.mul_left_comm (p*q) 4 y]
   rw[e]
   have e2:(p+p)*(q*(1+2*p*q))*(4*x+1)=2*(p*q*(4*x+1))+4*(p*q*(p*q*(4*x+1))):=by
    have a1:(p+p)*(q*(1+2*p*q))=2*(p*q)+4*(p*q*(p*q)):=by
     rw[<-Nat.two_mul,bO,<-bO p q,Nat.mul_add,Nat.mul_one,Nat.mul_add]
     congr 1
     rw[bO 2 p q,Nat.mul_left_comm (p*q) 2,<-bO]
    rw[a1,Nat.add_mul,bO 2,bO 4,bO (p*q)]
   rw[e2]
   omega
theorem CB:∀ k x y,∃ d,d<2 ^ k/\lcg d x%2 ^ k=y%2 ^ k
 | 0,x,y=>⟨0,Nat.one_pos,by simp[Nat.mod_one]⟩
 |k+1,x,y=>by
  obtain⟨d,hd,e⟩:=CB k x y
  have hp:0<2 ^ k:=Nat.two_pow_pos k
  have h2:2 ^ (k+1)=2 ^ k*2:=dH ..
  obtain⟨q,hq,h⟩:=CA k
  have split:∀ a,a%(2 ^ k*2)=a%2 ^ k+2 ^ k*(a/2 ^ k%2):=λa=>Nat.mod_mul
  by_cases c:lcg d x/2 ^ k%2=y/2 ^ k%2
  ·exact⟨d,by omega,by rw[h2,split,split,e,c]⟩
  ·refine⟨2 ^ k+d,by omega,?_⟩
   rw[zi,h,h2,split,split]
   generalize hz:lcg d x=z at *
   have h4:(q*(4*z+1))%2=1:=by
    rw[Nat.mul_mod,hq,show(4*z+1)%2=1 by omega]
   have e1:(z+2 ^ k*q*(4*z+1))%2 ^ k=z%2 ^ k:=by rw[bO,Nat.add_mul_mod_self_left]
   have e2:(z+2 ^ k*q*(4*z+1))/2 ^ k=z/2 ^ k+q*(4*z+1):=by rw[bO,Nat.add_mul_div_left _ _ hp]
   rw[e1,e2,e]
   congr 2
   have:=Nat.mod_two_eq_zero_or_one (z/2 ^ k)
   have:=Nat.mod_two_eq_zero_or_one (y/2 ^ k)
   omega
open SetTable
noncomputable def adv (mask:Nat)(p:Probe):Probe:=
 if p.more>0 then {p with j:=p.j+1,more:=p.more-1} else
 {p with j:=(leap mask p.i p.perturb).1,more:=runEnd mask (leap mask p.i p.perturb).1-(leap mask p.i p.perturb).1,i:=(leap mask p.i p.perturb).1,perturb:=(leap mask p.i p.perturb).2}
theorem GH (t:SetTable)(p:Probe):t.advance p=adv t.mask p:=by unfold advance adv;split<;>rfl
noncomputable def pAt (mask:Nat)(h:Int):Nat->Probe
 | 0=>{j:=bits h%(mask+1),more:=runEnd mask (bits h%(mask+1))-bits h%(mask+1),i:=bits h%(mask+1),perturb:=bits h,dummy:=none}
 |n+1=>adv mask (pAt mask h n)
theorem xS (mask:Nat)(h:Int):∀ n,(pAt mask h n).dummy=none
 | 0=>rfl
 |n+1=>by
  show(adv mask (pAt mask h n)).dummy=none
  unfold adv
  split<;>exact xS mask h n
noncomputable def lpI (mask:Nat)(h:Int):Nat->Nat×Nat
 | 0=>(bits h%(mask+1),bits h)
 |r+1=>leap mask (lpI mask h r).1 (lpI mask h r).2
noncomputable def lpT (mask:Nat)(h:Int):Nat->Nat
 | 0=>0
 |r+1=>lpT mask h r+(runEnd mask (lpI mask h r).1-(lpI mask h r).1)+1
theorem xO (mask i:Nat):i<=runEnd mask i:=by unfold runEnd;split<;>omega
theorem DH (mask i:Nat):runEnd mask i<=i+9:=by unfold runEnd;split<;>omega
variable {mask:Nat}
theorem tV {i:Nat}(h:i<=mask):runEnd mask i<=mask:=by unfold runEnd;split<;>omega
theorem p8 (mask:Nat)(h:Int):∀ r d,d<=runEnd mask (lpI mask h r).1-(lpI mask h r).1->
  pAt mask h (lpT mask h r+d) = {j:=(lpI mask h r).1+d,more:=runEnd mask (lpI mask h r).1-(lpI mask h r).1-d,i:=(lpI mask h r).1,perturb:=(lpI mask h r).2,dummy:=none}
 | 0,0,_=>rfl
 |r+1,0,_=>by
  have ih:=p8 mask h r _ (aw _)
  show pAt mask h (lpT mask h r+(runEnd mask (lpI mask h r).1-(lpI mask h r).1)+1)=_
  show adv mask (pAt mask h (lpT mask h r+(runEnd mask (lpI mask h r).1-(lpI mask h r).1)))=_
  rw[ih]
  unfold adv
  simp only[dG,gt_iff_lt,cz,cb]
  rfl
 |r,d+1,hd=>by
  have ih:=p8 mask h r d (by omega)
  show adv mask (pAt mask h (lpT mask h r+d))=_
  rw[ih]
  unfold adv
  rw[av (by show _>0;simp only;omega)]
  simp only[Probe.mk.injEq,and_true,true_and]
  omega
theorem BE (mask:Nat)(h:Int):∀ r,(lpI mask h r).1<=mask
 | 0=>Nat.le_of_lt_succ (Nat.mod_lt (bits h) (Nat.succ_pos mask))
 |r+1=>Nat.le_of_lt_succ (Nat.mod_lt ((lpI mask h r).1*5+1+(lpI mask h r).2/32) (Nat.succ_pos mask))
theorem HD (h:Int):bits h<2 ^ 64:=by unfold bits;omega
theorem AD (mask:Nat)(h:Int):∀ r,(lpI mask h r).2=bits h/32 ^ r
 | 0=>by simp[lpI]
 |r+1=>by
  show(lpI mask h r).2/32=_
  rw[AD mask h r,Nat.div_div_eq_div_mul,dH]
theorem FX (mask:Nat)(h:Int){r:Nat}(hr:13<=r):(lpI mask h r).2=0:=by
 rw[AD]
 have h1:=HD h
 have h2:32 ^ 13<=32 ^ r:=dy (by decide) hr
 exact Nat.div_eq_of_lt (aP h1 (aT (by decide) h2))
theorem Cy (mask:Nat)(h:Int){s:Nat}(hs:13<=s):∀ d,(lpI mask h (s+d)).1=lcg d (lpI mask h s).1%(mask+1)
 | 0=>by show(lpI mask h s).1=(lpI mask h s).1%(mask+1);rw[Nat.mod_eq_of_lt (Nat.lt_succ_of_le (BE mask h s))]
 |d+1=>by
  have ih:=Cy mask h hs d
  show((lpI mask h (s+d)).1*5+1+(lpI mask h (s+d)).2/32)%(mask+1)=(5*lcg d (lpI mask h s).1+1)%(mask+1)
  rw[FX mask h (by omega),ih,Nat.zero_div,Nat.add_zero,Nat.mul_comm _ 5,Nat.add_mod,Nat.mul_mod_mod,<-Nat.add_mod]
variable {j:Nat}
theorem Cz {k:Nat}(hk:mask+1=2 ^ k)(h:Int)(r0:Nat)(hj:j<=mask):∃ r,r0+1<=r/\r<=r0+mask+14/\(lpI mask h r).1=j:=by
 obtain⟨s,h1,h2,h3⟩:∃ s,13<=s/\r0+1<=s/\s<=r0+14:=by
  by_cases c:13<=r0+1
  ·exact⟨r0+1,c,by omega,by omega⟩
  ·exact⟨13,by omega,by omega,by omega⟩
 obtain⟨d,hd,e⟩:=CB k (lpI mask h s).1 j
 refine⟨s+d,by omega,by omega,?_⟩
 rw[Cy mask h h1,hk,e,Nat.mod_eq_of_lt (by omega)]
theorem FW (mask:Nat)(h:Int)(r:Nat):∀ e,lpT mask h (r+e)<=lpT mask h r+10*e
 | 0=>aw _
 |e+1=>by
  have:=FW mask h r e
  have h2:=DH mask (lpI mask h (r+e)).1
  show lpT mask h (r+e)+(runEnd mask (lpI mask h (r+e)).1-(lpI mask h (r+e)).1)+1<=_
  omega
theorem zh (mask:Nat)(h:Int)(r:Nat):lpT mask h r<lpT mask h (r+1):=by
 show _<lpT mask h r+(runEnd mask (lpI mask h r).1-(lpI mask h r).1)+1
 omega
theorem AB (mask:Nat)(h:Int)(r:Nat):∀ e,lpT mask h r<=lpT mask h (r+e)
 | 0=>aw _
 |e+1=>aT (AB mask h r e) (cu (zh mask h (r+e)))
theorem vQ (mask:Nat)(h:Int):∀ n,∃ r,lpT mask h r<=n/\n<lpT mask h (r+1)
 | 0=>⟨0,aw _,zh mask h 0⟩
 |n+1=>by
  obtain⟨r,h1,h2⟩:=vQ mask h n
  by_cases c:n+1<lpT mask h (r+1)
  ·exact⟨r,by omega,c⟩
  ·exact⟨r+1,by omega,by have:=zh mask h (r+1);omega⟩
theorem Cp {k:Nat}(hk:mask+1=2 ^ k)(h:Int)(n:Nat)(hj:j<=mask):∃ m,n<=m/\m<n+10*turns mask/\(pAt mask h m).j=j:=by
 obtain⟨r0,h1,h2⟩:=vQ mask h n
 obtain⟨r,h3,h4,e⟩:=Cz hk h r0 hj
 refine⟨lpT mask h r,?_,?_,?_⟩
 ·obtain⟨x,rfl⟩:∃ x,r=r0+1+x:=⟨r-(r0+1),by omega⟩
  have:=AB mask h (r0+1) x
  omega
 ·obtain⟨x,rfl⟩:∃ x,r=r0+x:=⟨r-r0,by omega⟩
  have:=FW mask h r0 x
  unfold turns
  omega
 ·have:=p8 mask h r 0 (aV _)
  rw[Nat.add_zero]at this
  rw[this]
  simpa using e
theorem IW (mask:Nat)(h:Int)(n:Nat):(pAt mask h n).j<=mask:=by
 obtain⟨r,h1,h2⟩:=vQ mask h n
 have h3:=tV (BE mask h r)
 have h4:=p8 mask h r (n-lpT mask h r) (by
  have:n<lpT mask h r+(runEnd mask (lpI mask h r).1-(lpI mask h r).1)+1:=h2
  omega)
 rw[show lpT mask h r+(n-lpT mask h r)=n by omega]at h4
 rw[h4]
 have:n<lpT mask h r+(runEnd mask (lpI mask h r).1-(lpI mask h r).1)+1:=h2
 have h5:=xO mask (lpI mask h r).1
 show(lpI mask h r).1+(n-lpT mask h r)<=mask
 omega
open SetTable
theorem wo {xs:Array Nat}{j:Nat}(hs:xs.toList.Pairwise (· < ·)):∀ fuel lo hi,hi-lo<=fuel->lo<=hi->hi<=xs.size->(∀ i (h:i<xs.size),i<lo->xs[i]<j)->(∀ i (h:i<xs.size),hi<=i->j<=xs[i])->
  below.go xs j fuel lo hi<=xs.size/\(∀ i (h:i<xs.size),i<below.go xs j fuel lo hi->xs[i]<j)/\(∀ i (h:i<xs.size),below.go xs j fuel lo hi<=i->j<=xs[i])
 | 0,lo,hi,h1,h2,h3,h4,h5=>by
  have:lo=hi:=by omega
  subst this
  exact⟨h3,h4,h5⟩
 |fuel+1,lo,hi,h1,h2,h3,h4,h5=>by
  unfold below.go
  by_cases c:lo<hi
  ·rw[av c]
   dsimp only
   have hm:(lo+hi)/2<xs.size:=by omega
   have e:xs.getD ((lo+hi)/2) j=xs[(lo+hi)/2]:=by simp[Array.getD,hm]
   have mono:∀ a b (ha:a<xs.size) (hb:b<xs.size),a<b->xs[a]<xs[b]:=λa b ha hb hab=>by
    have:=ei.mp hs a b (by simpa using ha) (by simpa using hb) hab
    simpa using this
   rw[e]
   by_cases d:xs[(lo+hi)/2]<j
   ·rw[av d]
    refine wo hs fuel _ _ (by omega) (by omega) h3 (λi h hi'=>?_) h5
    by_cases q:i=(lo+hi)/2
    ·subst q;exact d
    ·exact Nat.lt_trans (mono i _ h hm (by omega)) d
   ·rw[ak d]
    refine wo hs fuel _ _ (by omega) (by omega) (by omega) h4 (λi h hi'=>?_)
    by_cases q:i=(lo+hi)/2
    ·subst q;omega
    ·have:=mono _ i hm h (by omega);omega
  ·rw[ak c]
   have:lo=hi:=by omega
   subst this
   exact⟨h3,h4,h5⟩
theorem pj {xs:Array Nat}(hs:xs.toList.Pairwise (· < ·))(j:Nat):
  below xs j<=xs.size/\(∀ i (h:i<xs.size),i<below xs j->xs[i]<j)/\(∀ i (h:i<xs.size),below xs j<=i->j<=xs[i]):=
 wo hs xs.size 0 xs.size (by omega) (by omega) (aw _) (λi h c=>by omega) λi h c=>by omega
theorem below_at {xs:Array Nat}(hs:xs.toList.Pairwise (· < ·)){i:Nat}(h:xs[i]? = some j):below xs j=i:=by
 obtain⟨h1,h2,h3⟩:=pj hs j
 obtain⟨hi,e⟩:=br.mp h
 have mono:∀ a b (ha:a<xs.size) (hb:b<xs.size),a<b->xs[a]<xs[b]:=λa b ha hb hab=>by
  have:=ei.mp hs a b (by simpa using ha) (by simpa using hb) hab
  simpa using this
 rcases Nat.lt_trichotomy (below xs j) i with c |c |c
 ·have:=h3 (below xs j) (by omega) (aw _)
  have:=mono _ _ (by omega) hi c
  omega
 ·exact c
 ·have:=h2 i hi c
  omega
theorem xk {xs:Array Nat}(hs:xs.toList.Pairwise (· < ·))(hj:j∉xs.toList):(insertAt xs (below xs j) j).toList.Pairwise (· < ·):=by
 obtain⟨h1,h2,h3⟩:=pj hs j
 rw[dg]
 have a:∀ y∈xs.toList.take (below xs j),y<j:=λy hy=>by
  obtain⟨i,hi,e⟩:=cQ.mp hy
  rw[aI]at hi
  rw[List.getElem_take]at e
  rw[<-e]
  exact h2 i (by simpa using(show i<xs.toList.length by omega)) (by omega)
 have b:∀ y∈xs.toList.drop (below xs j),j<y:=λy hy=>by
  obtain⟨i,hi,e⟩:=cQ.mp hy
  rw[bp]at hi
  rw[List.getElem_drop]at e
  have hm:y∈xs.toList:=dz hy
  have:j≠y:=λz=>hj (z ▸ hm)
  have:=h3 (below xs j+i) (by simpa using(show below xs j+i<xs.toList.length by omega)) (by omega)
  rw[<-e]at *
  simp at *
  omega
 refine List.pairwise_append.mpr ⟨hs.sublist (List.take_sublist _ _),List.pairwise_cons.mpr ⟨b,hs.sublist (List.drop_sublist _ _)⟩,λx hx y hy=>?_⟩
 rcases ay.mp hy with rfl |hy
 ·exact a x hx
 ·exact Nat.lt_trans (a x hx) (b y hy)
variable {t:SetTable}
theorem nZ (hs:t.place.toList.Pairwise (· < ·)){i:Nat}(h:t.place[i]? = some j):t.slot j = .live i:=by
 unfold slot
 dsimp only
 rw[below_at hs h,h]
 simp
theorem vd (hd:t.dummies = #[])(h:j∉t.place.toList):t.slot j = .empty:=by
 unfold slot
 dsimp only
 rw[ak,hd,ak]
 ·simp[has]
 ·intro z
  have z':t.place[below t.place j]? = some j:=by simpa using z
  exact h (by rw[dB];exact Array.mem_of_getElem? z')
theorem sub_len:∀ {l m:List Nat},l.Nodup->(∀ x∈l,x∈m)->l.length<=m.length
 |[],m,_,_=>aV _
 |x::l,m,hn,hs=>by
  rw[bI]at hn
  have hx:=hs x au
  have:=@sub_len l (m.erase x) hn.2 λy hy=>by
   refine(List.mem_erase_of_ne ?_).mpr (hs y (aq _ hy))
   rintro rfl
   exact hn.1 hy
  have h2:=eD hx
  have h3:0<m.length:=List.length_pos_of_mem hx
  rw[aH]
  omega
theorem xI {l:List Nat}{mask:Nat}(h:l.length<=mask):∃ j,j<=mask/\j∉l:=by
 refine aU λc=>?_
 have:=@sub_len (List.range (mask+1)) l List.nodup_range λx hx=>aU λq=>c ⟨x,by have:=bG.mp hx;omega,q⟩
 rw[di]at this
 omega
noncomputable def sE (mask:Nat)(taken:List Nat)(h:Int)(j:Nat):Prop:=∃ n,(pAt mask h n).j=j/\∀ m,m<n->(pAt mask h m).j∈taken
structure WFT (t:SetTable)(hs:List Int):Prop where
 pow:∃ k,3<=k/\t.mask+1=2 ^ k
 small:t.mask<=8191
 dum:t.dummies = #[]
 rise:t.place.toList.Pairwise (· < ·)
 all:∀ j∈t.place.toList,j<=t.mask
 len:t.place.size=hs.length
 room:hs.length*5<t.mask*3
 reach:∀ i (h:i<hs.length) j,t.place[i]? = some j->sE t.mask t.place.toList hs[i] j
variable {hs:List Int}
theorem WFT.fits (W:WFT t hs):t.fits hs.length=true:=by
 have:=W.room
 simp only[SetTable.fits,SetTable.fill,W.len,W.dum,dj,Bool.true_and,cq]
 show hs.length+0<=t.mask
 omega
theorem WFT.So (W:WFT t hs):t.gaveWay=false:=by
 obtain⟨k,hk,e⟩:=W.pow
 obtain⟨k,rfl⟩:∃ q,k=q+1:=⟨k-1,by omega⟩
 rw[dH]at e
 unfold gaveWay
 have:t.mask%2=1:=by omega
 rw[this];rfl
theorem WFT.fresh (a b:Nat)(led:Bool):WFT (SetTable.fresh a b led) []:=
 ⟨⟨3,by decide,rfl⟩,(by show 7<=8191;decide),rfl,List.Pairwise.nil,λj hj=>by simp[SetTable.fresh]at hj,rfl,(by show 0*5<7*3;decide),λi h=>by simp at h⟩
noncomputable def Hit (t:SetTable)(hs:List Int)(h:Int)(n:Nat):Prop:=(pAt t.mask h n).j∉t.place.toList\/∃ i,t.place[i]? = some (pAt t.mask h n).j/\hs.getD i 0=h
noncomputable def v7 (t:SetTable)(h:Int)(n:Nat):SetTable.Met:=match t.slot (pAt t.mask h n).j with
 |.live i=>.candidate (pAt t.mask h n).j i (pAt t.mask h (n+1))
 |_=>.empty (pAt t.mask h n).j none
theorem Fo (W:WFT t hs){ha:Nat->Int}{h:Int}(hh:∀ i,i<hs.length->ha i=hs.getD i 0):∀ (d fuel n:Nat),d<fuel->Hit t hs h (n+d)->(∀ m,n<=m->m<n+d->¬Hit t hs h m)->
  SetTable.probe.go t ha h fuel (pAt t.mask h n)=some (v7 t h (n+d)):=by
 intro d
 induction d with
 |zero=>
  intro fuel n hf hit _
  obtain⟨f,rfl⟩:∃ f,fuel=f+1:=⟨fuel-1,by omega⟩
  unfold SetTable.probe.go v7
  rw[Nat.add_zero]at hit ⊢
  rcases hit with z |⟨i,z,e⟩
  ·rw[vd W.dum z,xS]
  ·rw[nZ W.rise z]
   have hi:i<hs.length:=by rw[<-W.len];exact(br.mp z).1
   dsimp only
   rw[hh i hi,e,dj,av rfl,GH]
   rfl
 |succ d ih=>
  intro fuel n hf hit hno
  obtain⟨f,rfl⟩:∃ f,fuel=f+1:=⟨fuel-1,by omega⟩
  have hn:=hno n (aw _) (by omega)
  unfold Hit at hn
  rw[not_or,Classical.not_not]at hn
  obtain⟨n1,n2⟩:=hn
  obtain⟨i,hi⟩:=Array.mem_iff_getElem?.mp (dB.mp n1)
  have hi':i<hs.length:=by rw[<-W.len];exact(br.mp hi).1
  unfold SetTable.probe.go
  rw[nZ W.rise hi]
  dsimp only
  rw[hh i hi',ak (by intro z;exact n2 ⟨i,hi,by simpa using z⟩),GH]
  have:=ih f (n+1) (by omega) (by rw[show n+1+d=n+(d+1) by omega];exact hit) λm h1 h2=>hno m (by omega) (by omega)
  rw[show n+(d+1)=n+1+d by omega]
  exact this
theorem tE {P:Nat->Prop} :∀ d n,P (n+d)->∃ e,e<=d/\P (n+e)/\∀ m,n<=m->m<n+e->¬P m
 | 0,n,h=>⟨0,aw _,h,λm h1 h2=>by omega⟩
 |d+1,n,h=>by
  by_cases c:P n
  ·exact⟨0,aV _,c,λm h1 h2=>by omega⟩
  ·obtain⟨e,h1,h2,h3⟩:=tE (P:=P) d (n+1) (by rw[show n+1+d=n+(d+1) by omega];exact h)
   refine⟨e+1,by omega,by rw[show n+(e+1)=n+1+e by omega];exact h2,λm h4 h5=>?_⟩
   by_cases q:m=n
   ·subst q;exact c
   ·exact h3 m (by omega) (by omega)
theorem Bs (W:WFT t hs){ha:Nat->Int}{h:Int}(hh:∀ i,i<hs.length->ha i=hs.getD i 0)(n:Nat):
  ∃ m,n<=m/\Hit t hs h m/\(∀ q,n<=q->q<m->¬Hit t hs h q)/\t.probe ha h (pAt t.mask h n)=some (v7 t h m):=by
 obtain⟨k,_,hk⟩:=W.pow
 obtain⟨j,hj,hf⟩:=@xI t.place.toList t.mask (by
  have:=W.room;have h1:=W.len
  rw[aK];omega)
 obtain⟨m,h1,h2,e⟩:=Cp hk h n hj
 obtain⟨d,rfl⟩:∃ d,m=n+d:=⟨m-n,by omega⟩
 obtain⟨e',h3,h4,h5⟩:=tE (P:=Hit t hs h) d n (.inl (by rw[e];exact hf))
 exact⟨n+e',by omega,h4,h5,Fo W hh e' _ n (by omega) h4 h5⟩
theorem WFT.put (W:WFT t hs){h:Int}{n:Nat}(he:(pAt t.mask h n).j∉t.place.toList)(hn:∀ m,m<n->(pAt t.mask h m).j∈t.place.toList)(b:Bool)
  (hr:(hs.length+1)*5<t.mask*3):WFT {(t.put (pAt t.mask h n).j).1 with plain:=b} (hs.take (t.put (pAt t.mask h n).j).2++h::hs.drop (t.put (pAt t.mask h n).j).2):=by
 generalize hj:(pAt t.mask h n).j=j at he
 have hp:(t.put j).2=below t.place j:=rfl
 have hpl:(t.put j).1.place=insertAt t.place (below t.place j) j:=rfl
 have hle:=(pj W.rise j).1
 have hL:(insertAt t.place (below t.place j) j).toList=t.place.toList.take (below t.place j)++j::t.place.toList.drop (below t.place j):=dg ..
 have uB:∀ x,x∈t.place.toList->x∈(insertAt t.place (below t.place j) j).toList:=λx hx=>by
  rw[hL]
  rw[<-cJ (below t.place j) t.place.toList]at hx
  rcases aL.mp hx with z |z
  ·exact cR _ z
  ·exact aF _ (aq _ z)
 have len:(hs.take (below t.place j)++h::hs.drop (below t.place j)).length=hs.length+1:=by
  rw[aG,aH,aI,bp]
  have:=W.len
  omega
 refine⟨W.pow,W.small,?_,xk W.rise he,λx hx=>?_,?_,?_,λi hi x hx=>?_⟩
 ·show(if has t.dummies j then eraseAt t.dummies (below t.dummies j)else t.dummies) = #[]
  rw[W.dum]
  simp[has]
 ·have hx:x∈(insertAt t.place (below t.place j) j).toList:=hx
  show x<=t.mask
  rw[hL]at hx
  rcases aL.mp hx with z |z
  ·exact W.all x (List.mem_of_mem_take z)
  ·rcases ay.mp z with rfl |z
   ·rw[<-hj];exact IW t.mask h n
   ·exact W.all x (dz z)
 ·rw[hp,len]
  show(insertAt t.place (below t.place j) j).size=_
  rw[<-aK,hL,aG,aH,aI,bp,aK,W.len]
  have:=W.len
  omega
 ·rw[hp,len];exact hr
 ·rw[hp]at hi
  have hx:(insertAt t.place (below t.place j) j)[i]? = some x:=hx
  rw[<-bE,hL]at hx
  have hg:∀ (y:Int),(hs.take (below t.place j)++h::hs.drop (below t.place j))[i]? = some y->sE t.mask (insertAt t.place (below t.place j) j).toList y x:=by
   intro y hy
   have up:∀ {y x},sE t.mask t.place.toList y x->sE t.mask (insertAt t.place (below t.place j) j).toList y x:=λ{y x} ⟨n,a,b⟩=>⟨n,a,λm hm=>uB _ (b m hm)⟩
   have hlt:(hs.take (below t.place j)).length=below t.place j:=by rw[aI];have:=W.len;omega
   have Eg:(t.place.toList.take (below t.place j)).length=below t.place j:=by rw[aI,aK];omega
   rcases Nat.lt_trichotomy i (below t.place j)with c |c |c
   ·rw[bf (by omega),cA c]at hx hy
    obtain⟨hl,e⟩:=af.mp hy
    have:=W.reach i hl x (by rw[<-bE];exact hx)
    rw[e]at this
    exact up this
   ·subst c
    rw[bq (by omega),hlt,dG]at hy
    rw[bq (by omega),Eg,dG]at hx
    simp at hx hy
    subst hx hy
    exact⟨n,hj,λm hm=>uB _ (hn m hm)⟩
   ·obtain⟨i,rfl⟩:∃ q,i=q+1:=⟨i-1,by omega⟩
    rw[bq (by omega),hlt,show i+1-below t.place j=(i-below t.place j)+1 by omega,List.getElem?_cons_succ,bX,show below t.place j+(i-below t.place j)=i by omega]at hy
    rw[bq (by omega),Eg,show i+1-below t.place j=(i-below t.place j)+1 by omega,List.getElem?_cons_succ,bX,show below t.place j+(i-below t.place j)=i by omega]at hx
    obtain⟨hl,e⟩:=af.mp hy
    have:=W.reach i hl x (by rw[<-bE];exact hx)
    rw[e]at this
    exact up this
  exact hg _ (aO hi)
open SetTable
noncomputable def rG (owner:Array (Option Nat))(j:Nat):Prop:=∃ i,owner[j]? = some (some i)
variable {owner:Array (Option Nat)}
theorem Ej (hz:owner.size=mask+1)(h:Int):∀ fuel r,(∃ r',r<=r'/\r'<r+fuel/\owner[(lpI mask h r').1]? = some none)->
  ∃ n j,layClean.free mask owner fuel (lpI mask h r).1 (lpI mask h r).2=some j/\lpT mask h r<=n/\(pAt mask h n).j=j/\owner[j]? = some none/\∀ m,lpT mask h r<=m->m<n->rG owner (pAt mask h m).j:=by
 intro fuel
 induction fuel with
 |zero=>rintro r ⟨r',h1,h2,_⟩;omega
 |succ fuel ih=>
  rintro r ⟨r',h1,h2,h3⟩
  have hrm:=tV (BE mask h r)
  have hrg:=xO mask (lpI mask h r).1
  have Gi:∀ k,k<runEnd mask (lpI mask h r).1+1-(lpI mask h r).1->∃ o,owner[(lpI mask h r).1+k]? = some o/\owner.getD ((lpI mask h r).1+k) (some 0)=o:=λk hk=>by
   have hl:(lpI mask h r).1+k<owner.size:=by omega
   exact⟨owner[(lpI mask h r).1+k],bt hl,by simp[Array.getD,hl]⟩
  have hj:∀ k,k<runEnd mask (lpI mask h r).1+1-(lpI mask h r).1->(pAt mask h (lpT mask h r+k)).j=(lpI mask h r).1+k:=λk hk=>by
   rw[p8 mask h r k (by omega)]
  unfold layClean.free
  cases hf:(List.range (runEnd mask (lpI mask h r).1+1-(lpI mask h r).1)).find? λk=>(owner.getD ((lpI mask h r).1+k) (some 0)).isNone with
  |some k=>
   dsimp only
   obtain⟨hk1,as,bs,hk2,hk3⟩:=List.find?_eq_some_iff_append.mp hf
   have hkm:k<runEnd mask (lpI mask h r).1+1-(lpI mask h r).1:=by
    have:=cT hf
    simpa using this
   obtain⟨o,o1,o2⟩:=Gi k hkm
   rw[o2]at hk1
   have:o=none:=by cases o with |none=>rfl |some _=>simp at hk1
   subst this
   refine⟨lpT mask h r+k,_,rfl,bW _ _,hj k hkm,o1,λm m1 m2=>?_⟩
   obtain⟨k',rfl⟩:∃ k',m=lpT mask h r+k':=⟨m-lpT mask h r,by omega⟩
   obtain⟨o',o3,o4⟩:=Gi k' (by omega)
   rw[hj k' (by omega)]
   have hin:k'∈as:=by
    have e1:(List.range (runEnd mask (lpI mask h r).1+1-(lpI mask h r).1))[as.length]? = some k:=by rw[hk2];simp
    have e2:as.length=k:=by
     rw[af]at e1
     obtain⟨_,e1⟩:=e1
     simpa using e1
    have e3:(List.range (runEnd mask (lpI mask h r).1+1-(lpI mask h r).1))[k']? = some k':=by
     rw[List.getElem?_range (by omega)]
    rw[hk2,bf (by omega)]at e3
    exact aB e3
   have:=hk3 k' hin
   rw[o4]at this
   cases o' with
   |none=>simp at this
   |some i=>exact⟨i,o3⟩
  |none=>
   dsimp only
   have lS:=List.find?_eq_none.mp hf
   have hno:∀ k,k<runEnd mask (lpI mask h r).1+1-(lpI mask h r).1->rG owner ((lpI mask h r).1+k):=λk hk=>by
    obtain⟨o,o1,o2⟩:=Gi k hk
    have:=lS k (bG.mpr hk)
    rw[o2]at this
    cases o with
    |none=>simp at this
    |some i=>exact⟨i,o1⟩
   have hne:r'≠r:=by
    rintro rfl
    obtain⟨i,e⟩:=hno 0 (by omega)
    rw[Nat.add_zero,h3]at e
    cases e
   obtain⟨n,j,e1,e2,e3,e4,e5⟩:=ih (r+1) ⟨r',by omega,by omega,h3⟩
   refine⟨n,j,e1,aT (cu (zh mask h r)) e2,e3,e4,λm m1 m2=>?_⟩
   by_cases c:m<lpT mask h (r+1)
   ·have c':m<lpT mask h r+(runEnd mask (lpI mask h r).1-(lpI mask h r).1)+1:=c
    obtain⟨k',rfl⟩:∃ k',m=lpT mask h r+k':=⟨m-lpT mask h r,by omega⟩
    rw[hj k' (by omega)]
    exact hno k' (by omega)
   ·exact e5 m (by omega) m2
structure Laid (mask:Nat)(hs:List Int)(owner:Array (Option Nat))(k:Nat):Prop where
 size:owner.size=mask+1
 only:∀ (j i:Nat),owner[j]? = some (some i)->i<k
 one:∀ (i j j':Nat),owner[j]? = some (some i)->owner[j']? = some (some i)->j=j'
 each:∀ i (h:i<hs.length),i<k->∃ (j n:Nat),owner[j]? = some (some i)/\(pAt mask hs[i] n).j=j/\∀ m,m<n->rG owner (pAt mask hs[i] m).j
theorem D3 {k:Nat}(L:Laid mask hs owner k)(hk:k<=mask):∃ j,j<=mask/\owner[j]? = some none:=by
 refine aU λc=>?_
 have lS:∀ j,j<=mask->∃ i,owner[j]? = some (some i):=λj hj=>by
  have hl:j<owner.size:=by rw[L.size];omega
  cases e:owner[j]with
  |none=>exact(c ⟨j,hj,by rw[bt hl,e]⟩).elim
  |some i=>exact⟨i,by rw[bt hl,e]⟩
 let f:Nat->Nat:=λj=>match owner[j]? with |some (some i)=>i |_=>0
 have hf:∀ j,j<=mask->owner[j]? = some (some (f j)):=λj hj=>by
  obtain⟨i,e⟩:=lS j hj
  show _=some (some (match owner[j]? with |some (some i)=>i |_=>0))
  rw[e]
 have:=@sub_len ((List.range (mask+1)).map f) (List.range k) (by
  rw[List.Nodup,cw]
  refine cX (λ{a b} ha hb hab e=>?_) (List.nodup_range (n:=mask+1))
  have ha:=bG.mp ha
  have hb:=bG.mp hb
  have h1:=hf a (by omega)
  have h2:=hf b (by omega)
  rw[e]at h1
  exact hab (L.one _ _ _ h1 h2)) λx hx=>by
   obtain⟨j,hj,rfl⟩:=aA.mp hx
   exact bG.mpr (L.only j _ (hf j (by have:=bG.mp hj;omega)))
 rw[aa,di,di]at this
 omega
noncomputable def CG (mask:Nat)(acc:Option (Array (Option Nat)×Nat))(h:Int):Option (Array (Option Nat)×Nat):=do
  let (owner,k) <-acc
  let j <-layClean.free mask owner (turns mask) (bits h%(mask+1)) (bits h)
  pure (owner.setIfInBounds j (some k),k+1)
theorem F1 {p:Nat}(hp:mask+1=2 ^ p){k:Nat}(L:Laid mask hs owner k)(hk:k<hs.length)(hm:hs.length<=mask):
  ∃ vC,CG mask (some (owner,k)) hs[k]=some (vC,k+1)/\Laid mask hs vC (k+1):=by
 obtain⟨j0,h1,h2⟩:=D3 L (by omega)
 obtain⟨r,r1,r2,r3⟩:=Cz hp hs[k] 0 h1
 obtain⟨n,j,e1,e2,e3,e4,e5⟩:=Ej L.size hs[k] (turns mask) 0 ⟨r,by omega,by unfold turns;omega,by rw[r3];exact h2⟩
 refine⟨owner.setIfInBounds j (some k),?_,?_⟩
 ·have e1':layClean.free mask owner (turns mask) (bits hs[k]%(mask+1)) (bits hs[k])=some j:=e1
  show(layClean.free mask owner (turns mask) (bits hs[k]%(mask+1)) (bits hs[k]) >>= λj=>pure (owner.setIfInBounds j (some k),k+1))=_
  rw[e1'];rfl
 have hj:j<owner.size:=(br.mp e4).1
 have AL:(owner.setIfInBounds j (some k))[j]? = some (some k):=by simp[hj]
 have Ef:∀ x,x≠j->(owner.setIfInBounds j (some k))[x]? = owner[x]? :=λx hx=>by simp[Array.getElem?_setIfInBounds,cB hx]
 have up:∀ x,rG owner x->rG (owner.setIfInBounds j (some k)) x:=λx ⟨i,hi⟩=>by
  by_cases c:x=j
  ·subst c;exact⟨k,AL⟩
  ·exact⟨i,by rw[Ef x c];exact hi⟩
 refine⟨by simp[L.size],λx i hx=>?_,λi x y hx hy=>?_,λi hi hik=>?_⟩
 ·by_cases c:x=j
  ·subst c;rw[AL]at hx;cases hx;omega
  ·rw[Ef x c]at hx;have:=L.only x i hx;omega
 ·by_cases c:x=j
  ·by_cases d:y=j
   ·rw[c,d]
   ·subst c;rw[AL]at hx;cases hx
    rw[Ef y d]at hy;have:=L.only y _ hy;omega
  ·rw[Ef x c]at hx
   by_cases d:y=j
   ·subst d;rw[AL]at hy;cases hy;have:=L.only x _ hx;omega
   ·rw[Ef y d]at hy;exact L.one i x y hx hy
 ·by_cases c:i=k
  ·subst c
   exact⟨j,n,AL,e3,λm hm=>up _ (e5 m (aV _) hm)⟩
  ·obtain⟨x,n',q1,q2,q3⟩:=L.each i hi (by omega)
   refine⟨x,n',?_,q2,λm hm=>up _ (q3 m hm)⟩
   rw[Ef x (λz=>by subst z;rw[e4]at q1;cases q1)]
   exact q1
theorem CF {mask p:Nat}(hp:mask+1=2 ^ p)(hs:List Int)(hm:hs.length<=mask):∀ (rest:List Int) (k:Nat) (owner:Array (Option Nat)),hs.drop k=rest->k<=hs.length->Laid mask hs owner k->
  ∃ vC,rest.foldl (CG mask) (some (owner,k))=some (vC,hs.length)/\Laid mask hs vC hs.length
 |[],k,owner,e,hk,L=>by
  have:k=hs.length:=by have:=bF List.length e;rw[bp]at this;simp at this;omega
  subst this
  exact⟨owner,rfl,L⟩
 |x::rest,k,owner,e,hk,L=>by
  have hlt:k<hs.length:=by have:=bF List.length e;rw[bp]at this;simp at this;omega
  have hx:hs[k]=x/\hs.drop (k+1)=rest:=by
   rw[el hlt]at e
   injection e with a b
   exact⟨a,b⟩
  obtain⟨o',e1,L'⟩:=F1 hp L hlt hm
  rw[hx.1]at e1
  obtain⟨o2,e2,L2⟩:=CF hp hs hm rest (k+1) o' hx.2 hlt L'
  exact⟨o2,by rw[List.foldl_cons,e1];exact e2,L2⟩
theorem AF {p:Nat}(hp:mask+1=2 ^ p){hs:Array Int}(hm:hs.size<=mask):∃ owner,layClean mask hs=some owner/\Laid mask hs.toList owner hs.size:=by
 obtain⟨o,e,L⟩:=CF hp hs.toList (by simpa using hm) hs.toList 0 (Array.replicate (mask+1) none) rfl (aV _)
  ⟨by simp,λj i h=>by simp[Array.getElem?_replicate]at h,λi j j' h=>by simp[Array.getElem?_replicate]at h,λi _ h=>by omega⟩
 refine⟨o,?_,by simpa using L⟩
 unfold layClean
 rw[<-Array.foldl_toList]
 have e':hs.toList.foldl (λacc h=>do
  let (owner,k) <-acc
  let j <-layClean.free mask owner (turns mask) (bits h%(mask+1)) (bits h)
  pure (owner.setIfInBounds j (some k),k+1)) (some (Array.replicate (mask+1) none,0))=some (o,hs.toList.length):=e
 rw[e']
 rfl
noncomputable def gT (mask:Nat)(owner:Array (Option Nat)):List (Nat×Nat):=(List.range (mask+1)).filterMap λj=>(owner.getD j none).map (j,·)
theorem jD (hz:owner.size=mask+1){i:Nat} :(j,i)∈gT mask owner↔owner[j]? = some (some i):=by
 unfold gT
 rw[dY]
 constructor
 ·rintro⟨x,hx,e⟩
  have hx:=bG.mp hx
  have hl:x<owner.size:=by omega
  have:owner.getD x none=owner[x]:=by simp[Array.getD,hl]
  rw[this]at e
  cases q:owner[x]with
  |none=>rw[q]at e;simp at e
  |some y=>
   rw[q]at e
   simp at e
   obtain⟨rfl,rfl⟩:=e
   rw[bt hl,q]
 ·intro h
  obtain⟨hl,e⟩:=br.mp h
  refine⟨j,bG.mpr (by omega),?_⟩
  simp[Array.getD,hl,e]
theorem sX (owner:Array (Option Nat))(mask:Nat):(gT mask owner).Pairwise λa b=>a.1<b.1:=by
 unfold gT
 rw[List.pairwise_filterMap]
 refine List.Pairwise.imp (λ{a b} hab x hx y hy=>?_) (List.pairwise_lt_range (n:=mask+1))
 rw[cH]at hx hy
 obtain⟨_,_,rfl⟩:=hx
 obtain⟨_,_,rfl⟩:=hy
 exact hab
theorem vv {l:List Nat}{n:Nat}(hn:l.Nodup)(h:∀ i,i∈l↔i<n):l.Perm (List.range n):=by
 refine(List.perm_ext_iff_of_nodup hn List.nodup_range).mpr λi=>?_
 rw[h i,bG]
theorem Hn {p:Nat}(hp:mask+1=2 ^ p)(h3:3<=p){hs:Array Int}(hm:hs.size*5<mask*3)(hsm:mask<=8191)(fg mv:Nat)(led plain:Bool):
  ∃ t order,SetTable.laid mask fg mv led plain hs=some (t,order)/\t.led=led/\t.mask=mask/\order.toList.Perm (List.range hs.size)/\WFT t (order.toList.map λi=>hs.getD i 0):=by
 obtain⟨owner,e,L⟩:=AF hp (hs:=hs) (by omega)
 refine⟨_,_,by unfold SetTable.laid;rw[e];rfl,rfl,rfl,?_,?_⟩
 ·show((gT mask owner).map (·.2)).toArray.toList.Perm _
  rw[bR]
  refine vv ?_ λi=>?_
  ·rw[List.Nodup,cw]
   refine cX (λ{a b} ha hb hab z=>?_) (sX owner mask)
   have ha:=(jD L.size (j:=a.1) (i:=a.2)).mp ha
   have hb:=(jD L.size (j:=b.1) (i:=b.2)).mp hb
   rw[z]at ha
   have:=L.one _ _ _ ha hb
   omega
  ·rw[aA]
   constructor
   ·rintro⟨⟨j,i'⟩,hj,rfl⟩
    exact L.only j i' ((jD L.size).mp hj)
   ·intro hi
    obtain⟨j,n,e1,_⟩:=L.each i (by simpa using hi) hi
    exact⟨(j,i),(jD L.size).mpr e1,rfl⟩
 ·have ua:((gT mask owner).map (·.2)).Perm (List.range hs.size):=by
   refine vv ?_ λi=>?_
   ·rw[List.Nodup,cw]
    refine cX (λ{a b} ha hb hab z=>?_) (sX owner mask)
    have ha:=(jD L.size (j:=a.1) (i:=a.2)).mp ha
    have hb:=(jD L.size (j:=b.1) (i:=b.2)).mp hb
    rw[z]at ha
    have:=L.one _ _ _ ha hb
    omega
   ·rw[aA]
    constructor
    ·rintro⟨⟨j,i'⟩,hj,rfl⟩
     exact L.only j i' ((jD L.size).mp hj)
    ·intro hi
     obtain⟨j,n,e1,_⟩:=L.each i (by simpa using hi) hi
     exact⟨(j,i),(jD L.size).mpr e1,rfl⟩
  have hlen:(gT mask owner).length=hs.size:=by
   have:=ua.length_eq
   rw[aa,di]at this
   exact this
  refine⟨⟨p,h3,hp⟩,hsm,rfl,?_,λj hj=>?_,?_,?_,λi hi j hj=>?_⟩
  ·show((gT mask owner).map (·.1)).toArray.toList.Pairwise (· < ·)
   rw[bR,cw]
   exact sX owner mask
  ·have hj:j∈((gT mask owner).map (·.1)).toArray.toList:=hj
   rw[bR]at hj
   obtain⟨⟨a,b⟩,hab,rfl⟩:=aA.mp hj
   have:=(br.mp ((jD L.size).mp hab)).1
   show a<=mask
   have:=L.size
   omega
  ·show((gT mask owner).map (·.1)).toArray.size=(((gT mask owner).map (·.2)).toArray.toList.map _).length
   simp
  ·show(((gT mask owner).map (·.2)).toArray.toList.map _).length*5<mask*3
   rw[bR,aa,aa,hlen]
   exact hm
  ·have hj:((gT mask owner).map (·.1)).toArray[i]? = some j:=hj
   rw[List.getElem?_toArray,ah]at hj
   have hi':i<(gT mask owner).length:=by simpa [gT]using hi
   rw[aO hi']at hj
   simp only[Option.map_some,Option.some.injEq]at hj
   have uB:(gT mask owner)[i]∈gT mask owner:=eJ hi'
   have ho:=(jD L.size (j:=(gT mask owner)[i].1) (i:=(gT mask owner)[i].2)).mp uB
   have hlt:=L.only _ _ ho
   obtain⟨j',n,e1,e2,e3⟩:=L.each (gT mask owner)[i].2 (by simpa using hlt) hlt
   have hjj:=L.one _ _ _ ho e1
   have hh:(((gT mask owner).map (·.2)).toArray.toList.map λi=>hs.getD i 0)[i]'(by simpa using hi')=hs.toList[(gT mask owner)[i].2]'(by simpa using hlt):=by
    simp[Array.getD,hlt]
   show sE mask _ _ j
   refine⟨n,?_,λm hm'=>?_⟩
   ·have:(pAt mask ((((gT mask owner).map (·.2)).toArray.toList.map λi=>hs.getD i 0)[i]'(by simpa using hi')) n).j=j:=by rw[hh,e2,<-hj,hjj]
    exact this
   ·have h5:=e3 m hm'
    have:(pAt mask ((((gT mask owner).map (·.2)).toArray.toList.map λi=>hs.getD i 0)[i]'(by simpa using hi')) m).j∈((gT mask owner).map (·.1)).toArray.toList:=by
     rw[hh,bR]
     obtain⟨i2,h6⟩:=h5
     exact aA.mpr ⟨(_,i2),(jD L.size).mpr h6,rfl⟩
    exact this
theorem rN:∀ fuel size n,(∃ k,3<=k/\size=2 ^ k)->n<size*2 ^ fuel->∃ k,3<=k/\sizeAbove.go n fuel size=2 ^ k/\n<sizeAbove.go n fuel size
 | 0,size,n,⟨k,hk,e⟩,h=>⟨k,hk,e,by simpa [sizeAbove.go]using h⟩
 |fuel+1,size,n,⟨k,hk,e⟩,h=>by
  unfold sizeAbove.go
  by_cases c:size<=n
  ·rw[av c]
   exact rN fuel (size*2) n ⟨k+1,by omega,by rw[dH,e]⟩ (by rw[bO,<-Nat.pow_succ'];exact h)
  ·rw[ak c]
   exact⟨k,hk,e,by omega⟩
theorem yG {n:Nat}(h:n<2 ^ 60):∃ k,3<=k/\sizeAbove n=2 ^ k/\n<sizeAbove n:=
 rN 64 8 n ⟨3,by decide,rfl⟩ (Nat.lt_trans h (by decide))
theorem rM:∀ fuel size n k,(∃ q,q<=k/\size=2 ^ q)->n<2 ^ k->sizeAbove.go n fuel size<=2 ^ k
 | 0,size,n,k,⟨q,h1,h2⟩,h=>by unfold sizeAbove.go;rw[h2];exact dy (by decide) h1
 |fuel+1,size,n,k,⟨q,h1,h2⟩,h=>by
  unfold sizeAbove.go
  by_cases c:size<=n
  ·rw[av c]
   refine rM fuel (size*2) n k ⟨q+1,?_,by rw[h2,dH]⟩ h
   refine aU λz=>?_
   have:q=k:=by omega
   subst this
   omega
  ·rw[ak c,h2];exact dy (by decide) h1
end TS
namespace TL
open PySem TS
variable {a b:Addr}{Q:Bool->Shared->Prop}{es:Array (Int×Value)}{t:SetTable}
section
variable {prog:Program}{w:World}{K:Type} [DecidableEq K] {knd:KeyKind prog w K}{A:Around}{E:Value->Shared->Prop}{s:Shared}
theorem uz (n:Nat){v:Value}(h:carriedByValue v=true):ofAClassStatement n v=pure false:=by
 cases v with
 |ref a=>simp[carriedByValue]at h
 |_=>unfold ofAClassStatement;rfl
theorem uT {ks:List K}(hk:IsTupleKey knd s.heap ks a)(h:Q false s):wpAny (model prog w) A (ofAClassStatement 8 (.ref a)) Q E s:=by
 have hT:=hk.typeIs
 obtain⟨o,items,n,ho,_,hd,hi⟩:=hk
 unfold ofAClassStatement
 refine ae (wpAny_typeOf hT ?_)
 dsimp only
 rw[av (dj _)]
 refine ae (ao ?_)
 simp only[Bool.not_true,aX,cb]
 refine ae (wpAny_seqItems ho hd ?_)
 dsimp only
 refine ae ?_
 rw[<-Array.forIn_toList]
 refine wpAny_forIn_list _ (λrest r s'=>r.1=none/\s'=s/\∀ v∈rest,carriedByValue v=true) _ ?_ ?_ _ _ ⟨rfl,rfl,hi.byValue⟩
 ·rintro v rest r s' ⟨hr,rfl,lS⟩
  rw[uz _ (lS v au)]
  refine ae (ao ?_)
  simp only[aX,cb]
  exact ao ⟨rfl,rfl,λu hu'=>lS u (aq _ hu')⟩
 ·rintro⟨r1,r2⟩ s' ⟨hr,rfl,_⟩
  simp only at hr
  subst hr
  exact ao h
theorem AR (n:Nat){v:Value}(h:v.scannable=true):∃ b,hashByValue n v=pure b:=⟨_,hashByValue_scannable n h⟩
theorem Dn {ks:List K}(hk:IsTupleKey knd s.heap ks a)(hsc:∀ k v,knd.is k v=true->v.scannable=true)(h:∀ b,Q b s):wpAny (model prog w) A (hashByValue 8 (.ref a)) Q E s:=by
 have hT:=hk.typeIs
 obtain⟨o,items,n,ho,_,hd,hi⟩:=hk
 have lS:∀ {x:List K}{vs:List Value},ItemsAre knd x vs->∀ v∈vs,v.scannable=true:=by
  intro x vs hx
  induction hx with
  |nil=>intro v hv;simp at hv
  |@cons k v' ks vs h1 _ ih=>
   intro v hv
   rcases ay.mp hv with rfl |hv
   ·exact hsc _ _ h1
   ·exact ih v hv
 unfold hashByValue
 refine ae (dZ hT F.slot_tuple_hash.lookup ?_)
 show wpAny _ _ (seqItems? (.ref a) >>= _) _ _ s
 refine ae (wpAny_seqItems ho hd ?_)
 refine ae ?_
 show wpAny _ _ (forIn items _ _) _ _ s
 rw[<-Array.forIn_toList]
 refine wpAny_forIn_list _ (λrest r s'=>r.1=none/\s'=s/\∀ v∈rest,v.scannable=true) _ ?_ ?_ _ _ ⟨rfl,rfl,lS hi⟩
 ·rintro v rest r s' ⟨hr,rfl,lS⟩
  obtain⟨b,e⟩:=AR 7 (lS v au)
  rw[e]
  refine ae (ao ?_)
  cases b with
  |true=>
   simp only[Bool.not_true,aX,cb]
   exact ao ⟨rfl,rfl,λu hu'=>lS u (aq _ hu')⟩
  |false=>
   simp only[Bool.not_false,df]
   exact ao (ao (h _))
 ·rintro⟨r1,r2⟩ s' ⟨hr,rfl,_⟩
  simp only at hr
  subst hr
  exact ao (h _)
theorem GK {ks:List K}(hk:IsTupleKey knd s.heap ks a){ys:List Value}(hy:∀ y∈ys,∃ b js,y = .ref b/\IsTupleKey knd s.heap js b)(h:Q false s):
  wpAny (model prog w) A (searchCouldBeSeen (.ref a) ys) Q E s:=by
 unfold searchCouldBeSeen
 refine ae ?_
 refine wpAny_forIn_list _ (λrest r s'=>r.1=none/\s'=s/\∀ v∈rest,v∈ys) _ ?_ ?_ _ _ ⟨rfl,rfl,λ_ h=>h⟩
 ·rintro v rest r s' ⟨hr,rfl,lS⟩
  obtain⟨b,js,rfl,hb⟩:=hy v (lS v au)
  dsimp only
  by_cases c:(a==b||carriedByValue (Value.ref a)&&carriedByValue (Value.ref b))=true
  ·rw[av c]
   exact ao ⟨rfl,rfl,λu hu'=>lS u (aq _ hu')⟩
  ·rw[ak c]
   refine ae (wpAny_eqIsQuiet_tuple hk ?_)
   simp only[Bool.not_true,aX,cb]
   refine ae (wpAny_eqIsQuiet_tuple hb ?_)
   simp only[Bool.not_true,aX,cb]
   refine ae (uT hk ?_)
   simp only[aX,cb]
   refine ae (uT hb ?_)
   simp only[aX,cb]
   exact ao ⟨rfl,rfl,λu hu'=>lS u (aq _ hu')⟩
 ·rintro⟨r1,r2⟩ s' ⟨hr,rfl,_⟩
  simp only at hr
  subst hr
  exact ao h
theorem Iw {α:Type}{c:Bool}{m:Sem Bool}{T U:Sem α}{Q:α->Shared->Prop}(h:wpAny (model prog w) A m (λb s'=>b=false/\s'=s) E s)(hT:wpAny (model prog w) A T Q E s):
  wpAny (model prog w) A (if c=true then m >>= λb=>if b=true then U else T else T) Q E s:=by
 cases c with
 |false=>rw[ak ax];exact hT
 |true=>
  rw[av rfl]
  refine ae (aR h (λb s' hb=>?_) λ_ _ h'=>h')
  obtain⟨rfl,rfl⟩:=hb
  rw[ak ax]
  exact hT
noncomputable def zv (knd:KeyKind prog w K)(x:List K×Addr):Int×Value:=(tupleKeyHash knd x.1,.ref x.2)
noncomputable def lK (knd:KeyKind prog w K)(h:Heap)(a:Addr)(xs:List (List K×Addr)):Prop:=
 ∃ o es ep t,h.get? a=some o/\o.ExactSet/\o.data = .set es ep t/\es.toList=xs.map (zv knd)/\(xs.map (·.1)).Nodup/\WFT t (xs.map λx=>tupleKeyHash knd x.1)
theorem Lb {xs:List (List K×Addr)}(he:es.toList=xs.map (zv knd))(i:Nat):es[i]? = (xs[i]?).map (zv knd):=by
 rw[<-bE,he,ah]
theorem wB {o:Obj}{ep:Nat}{xs:List (List K×Addr)}{k:List K}{tK:Bool}{Q:SetFound->Shared->Prop}(hu:A.units<cLine)
  (ho:s.heap.get? a=some o) (hd:o.data = .set es ep t) (he:es.toList=xs.map (zv knd)) (hnd:(xs.map (·.1)).Nodup) (W:WFT t (xs.map λx=>tupleKeyHash knd x.1))
  (hx:∀ x∈xs,IsTupleKey knd s.heap x.1 x.2) (hk:IsTupleKey knd s.heap k b) (m0:Nat) (hm0:(pAt t.mask (tupleKeyHash knd k) m0).j∉t.place.toList) (hm1:∀ m,m<m0->(pAt t.mask (tupleKeyHash knd k) m).j∈t.place.toList)
  (BM:∀ (i:Nat) y,xs[i]? = some (k,y)->Q (.there (if tK then none else some i)) s) (nk:k∉xs.map (·.1)->Q (.free (pAt t.mask (tupleKeyHash knd k) m0).j false) s):
  ∀ (fuel n:Nat) (st:Option SetTable.Probe),m0<fuel+n->n<=m0->st.getD (t.probeStart (tupleKeyHash knd k))=pAt t.mask (tupleKeyHash knd k) n->(∀ m,m<n->∀ (i:Nat) y,t.place[i]? = some (pAt t.mask (tupleKeyHash knd k) m).j->xs[i]? ≠some (k,y))->
   wpAny (model prog w) A (setSearchFrom a (.ref b) (tupleKeyHash knd k) tK fuel st) Q E s:=by
 intro fuel
 induction fuel with
 |zero=>intro n st h1 h2;omega
 |succ fuel ih=>
  intro n st h1 h2 hst Sm
  have hsz:es.size=xs.length:=by rw[<-aK,he,aa]
  have zr:t.fits es.size=true:=by have:=W.fits;rw[aa]at this;rw[hsz];exact this
  unfold setSearchFrom
  refine ae (cS ho hd zr ?_)
  dsimp only
  rw[W.So]
  simp only[aX,cb]
  rw[hst]
  obtain⟨m,g1,g2,g3,g4⟩:=Bs W (ha:=λi=>(es[i]?.map (·.1)).getD 0) (h:=tupleKeyHash knd k) (λi hi=>by
   rw[aa]at hi
   show((es[i]?).map (·.1)).getD 0=_
   rw[Lb he,aO hi,ba,ah,aO hi];rfl) n
  generalize hP:t.probe _ (tupleKeyHash knd k) (pAt t.mask (tupleKeyHash knd k) n)=P
  have hP':P=some (v7 t (tupleKeyHash knd k) m):=by rw[<-hP];exact g4
  subst hP'
  dsimp only
  have hmm:m<=m0:=aU λc=>g3 m0 h2 (by omega) (.inl hm0)
  unfold v7
  have hno:∀ q,q<m->∀ (i:Nat) y,t.place[i]? = some (pAt t.mask (tupleKeyHash knd k) q).j->xs[i]? ≠some (k,y):=λq hq i y hp hxi=>by
   by_cases c:q<n
   ·exact Sm q c i y hp hxi
   ·refine g3 q (by omega) hq (.inr ⟨i,hp,?_⟩)
    rw[ba,ah,hxi];rfl
  by_cases hin:(pAt t.mask (tupleKeyHash knd k) m).j∈t.place.toList
  ·obtain⟨i,hi⟩:=Array.mem_iff_getElem?.mp (dB.mp hin)
   rw[nZ W.rise hi]
   dsimp only
   have hil:i<xs.length:=by have:=(br.mp hi).1;rw[W.len,aa]at this;exact this
   have hxi:xs[i]? = some (xs[i].1,xs[i].2):=aO hil
   have hei:es[i]? = some (tupleKeyHash knd xs[i].1,.ref xs[i].2):=by rw[Lb he,hxi];rfl
   have hki:=hx xs[i] (eJ hil)
   refine Iw (GK hk (λy hy=>?_) ⟨rfl,rfl⟩) ?_
   ·obtain⟨z,hz,rfl⟩:=aA.mp hy
    rw[Array.toList_filter]at hz
    have hz:=(bJ.mp hz).1
    rw[he]at hz
    obtain⟨q,hq,rfl⟩:=aA.mp hz
    exact⟨q.2,q.1,rfl,hx q hq⟩
   rw[hei]
   dsimp only
   refine ae (bc (wpAny_eqBool_tuple hu hki hk ?_))
   refine ae (cS ho hd zr ?_)
   dsimp only
   by_cases hkk:xs[i].1=k
   ·have Gf:xs[i]? = some (k,xs[i].2):=by rw[<-hkk];exact hxi
    rw[cP hkk]
    have q:=BM i _ Gf
    cases tK with
    |true=>
     simp only[Bool.and_self,df]
     exact ao q
    |false=>
     simp only[Bool.false_and,aX,cb]
     have hsm:t.sameMemory t.moves t.mask=some true:=by unfold SetTable.sameMemory;simp
     rw[hsm]
     simp only[df]
     rw[nZ W.rise hi]
     dsimp only
     rw[hei]
     dsimp only
     refine ae (wpAny_isSame_ref_self ?_)
     refine ae (ao ?_)
     simp only[df]
     exact ao q
   ·rw[bu hkk]
    simp only[Bool.and_false,aX,cb]
    have hsm:t.sameMemory t.moves t.mask=some true:=by unfold SetTable.sameMemory;simp
    rw[hsm]
    simp only[df]
    rw[nZ W.rise hi]
    dsimp only
    rw[hei]
    dsimp only
    refine ae (wpAny_isSame_ref_self ?_)
    refine ae (ao ?_)
    simp only[df]
    have hne:m≠m0:=λz=>hm0 (by rw[<-z];exact hin)
    refine ih (m+1) (some _) (by omega) (by omega) rfl λq hq i' y hp Gf=>?_
    by_cases c:q<m
    ·exact hno q c i' y hp Gf
    ·have:q=m:=by omega
     subst this
     have e1:=below_at W.rise hp
     have e2:=below_at W.rise hi
     have:i'=i:=by omega
     subst this
     rw[hxi]at Gf
     cases Gf
     exact hkk rfl
  ·rw[vd W.dum hin]
   dsimp only
   have hme:m=m0:=aU λc=>hin (hm1 m (by omega))
   subst hme
   refine ao (nk λuB=>?_)
   obtain⟨x,hx1,hx2⟩:=aA.mp uB
   obtain⟨i,hi1⟩:=cK.mp hx1
   have hil:i<xs.length:=(af.mp hi1).1
   have hip:i<t.place.size:=by rw[W.len,aa];exact hil
   have hxk:xs[i].1=k:=by rw[<-hx2];congr 1;exact(af.mp hi1).2
   obtain⟨nn,r1,r2⟩:=W.reach i (by rw[aa];exact hil) _ (bt hip)
   have hh:(xs.map λx=>tupleKeyHash knd x.1)[i]'(by rw[aa];exact hil)=tupleKeyHash knd k:=by rw[List.getElem_map,hxk]
   rw[hh]at r1 r2
   rcases Nat.lt_trichotomy nn m with c |c |c
   ·exact hno nn c i x.2 (by rw[r1];exact bt hip) (by rw[hi1,<-hx2])
   ·subst c
    exact hin (by rw[r1];simp)
   ·exact hin (r2 m c)
end
variable {order:List Nat}
section
variable {prog:Program}{w:World}{K:Type} [DecidableEq K] {knd:KeyKind prog w K}{A:Around}{E:Value->Shared->Prop}{s:Shared}
theorem Dp {hs:List Int}(W:WFT t hs)(h:Int):∃ m0,m0<100000/\(pAt t.mask h m0).j∉t.place.toList/\∀ m,m<m0->(pAt t.mask h m).j∈t.place.toList:=by
 obtain⟨k,_,hk⟩:=W.pow
 obtain⟨j,hj,hf⟩:=@xI t.place.toList t.mask (by
  have:=W.room;have h1:=W.len
  rw[aK];omega)
 obtain⟨m,h1,h2,e⟩:=Cp hk h 0 hj
 obtain⟨e',h3,h4,h5⟩:=tE (P:=λn=>(pAt t.mask h n).j∉t.place.toList) m 0 (by rw[Nat.zero_add,e];exact hf)
 rw[Nat.zero_add]at h4
 refine⟨e',?_,h4,λq hq=>aU λc=>h5 q (aV _) (by omega) c⟩
 have:=W.small
 unfold SetTable.turns at h2
 omega
theorem xy {o:Obj}{ep:Nat}{xs:List (List K×Addr)}{k:List K}{tK:Bool}{Q:SetFound->Shared->Prop}(hu:A.units<cLine)
  (ho:s.heap.get? a=some o) (hd:o.data = .set es ep t) (he:es.toList=xs.map (zv knd)) (hnd:(xs.map (·.1)).Nodup) (W:WFT t (xs.map λx=>tupleKeyHash knd x.1))
  (hx:∀ x∈xs,IsTupleKey knd s.heap x.1 x.2) (hk:IsTupleKey knd s.heap k b)
  (BM:∀ (i:Nat) y,xs[i]? = some (k,y)->Q (.there (if tK then none else some i)) s)
  (nk:k∉xs.map (·.1)->∀ m0,(pAt t.mask (tupleKeyHash knd k) m0).j∉t.place.toList->(∀ m,m<m0->(pAt t.mask (tupleKeyHash knd k) m).j∈t.place.toList)->Q (.free (pAt t.mask (tupleKeyHash knd k) m0).j false) s):
  wpAny (model prog w) A (setSearch a (.ref b) (tupleKeyHash knd k) tK) Q E s:=by
 obtain⟨m0,g1,g2,g3⟩:=Dp W (tupleKeyHash knd k)
 exact wB hu ho hd he hnd W hx hk m0 g2 g3 BM (λh=>nk h m0 g2 g3) 100000 0 none (by omega) (aV _) rfl λm hm=>by omega
theorem wm (b:Addr)(es:Array (Int×Value)):byScan (.ref b) es=false:=by simp[byScan,Value.scannable]
theorem EH {xs:List (List K×Addr)}{k:List K}{Q:Option Nat->Shared->Prop}(hu:A.units<cLine)(hS:lK knd s.heap a xs)(hx:∀ x∈xs,IsTupleKey knd s.heap x.1 x.2)(hk:IsTupleKey knd s.heap k b)
  (h:∀ r:Option Nat,r.isSome=decide (k∈xs.map (·.1))->Q r s):wpAny (model prog w) A (setFind a (.ref b) (tupleKeyHash knd k)) Q E s:=by
 obtain⟨o,es,ep,t,ho,hex,hd,he,hnd,W⟩:=hS
 have hsz:es.size=xs.length:=by rw[<-aK,he,aa]
 have zr:t.fits es.size=true:=by have:=W.fits;rw[aa]at this;rw[hsz];exact this
 unfold setFind setFindIn
 refine ae (cS ho hd zr ?_)
 dsimp only
 rw[wm]
 simp only[aX,cb]
 refine ae (xy hu ho hd he hnd W hx hk (λi y hi=>?_) λhn m0 _ _=>?_)
 ·refine ao (h _ ?_)
  have:k∈xs.map (·.1):=aA.mpr ⟨_,aB hi,rfl⟩
  simp[this]
 ·refine ao (h _ ?_)
  rw[bu hn];rfl
theorem lK.typeIs {xs:List (List K×Addr)}(hS:lK knd s.heap a xs):s.TypeIs (.ref a) "set" :=let ⟨o,_,_,_,ho,hc,_⟩:=hS;⟨o,ho,hc.1⟩
theorem lK.noDict {xs:List (List K×Addr)}(hS:lK knd s.heap a xs):∀ b,Value.ref a = .ref b->∃ ob,s.heap.get? b=some ob/\ob.dict=none:=
 λb e=>by injection e with e;subst e;exact let ⟨o,_,_,_,ho,hc,_⟩:=hS;⟨o,ho,hc.2.1⟩
theorem yr {xs:List (List K×Addr)}{k:List K}(hu:A.units+1<cLine)(hS:lK knd s.heap a xs)(hx:∀ x∈xs,IsTupleKey knd s.heap x.1 x.2)(hk:IsTupleKey knd s.heap k b)
  (h:∀ c:Bool,(c=true↔k∈xs.map (·.1))->Q c {s with toks:=s.toks+(k.length+1)}):wpAny (model prog w) A (contains (.ref a) (.ref b)) Q E s:=by
 unfold contains
 try with_reducible refine bc ?_
 refine ae (dZ hS.typeIs F.slot_set_contains.lookup ?_)
 show wpAny _ _ (if(some (Value.builtin "set.__contains__")==some Value.none)=true then _ else _) _ E s
 rw[ak (by rw[beq_builtin_none];exact ax)]
 refine ae (wpAny_callSpecialUnlessNone?_slot (name:=Str.ofString "__contains__") hS.typeIs F.slot_set_contains
  (wpAny_call_entry F.slot_set_contains hS.typeIs entry_set_contains ?_ (F.args_set_contains_2 _ _)))
 unfold Builtin.«frozenset.__contains__» Builtin.Frozenset.oneOther
 simp only[List.isEmpty_nil,bind_assoc]
 unfold Builtin.Frozenset.addrOf Builtin.Frozenset.withSetAsKey setContains
 refine ae (ao ?_)
 try dsimp only
 refine ae (ao ?_)
 try dsimp only
 refine ae (wpAny_tryCatch ?_)
 refine bc ?_
 refine ae (wpAny_pyHash_tuple (eF (knd:=knd) hu) hk ?_)
 refine ae (EH (s:={s with toks:=s.toks+(k.length+1)}) (eF (knd:=knd) hu) hS hx hk λr hr=>?_)
 refine ao ?_
 show wpAny _ _ (ret (Value.bool r.isSome)) _ _ _
 rw[hr]
 exact ao ⟨_,rfl,bU (h _ cF)⟩
theorem ES {h:Heap}{o:Obj}{ep:Nat}(ho:h.get? a=some o)(hd:o.data = .set es ep t)(es':Array (Int×Value))(t':SetTable):
  (h.update a (Obj.putSet es' t')).get? a=some {o with data:=.set es' (ep+1) t'} :=by
 have:=Heap.get?_update_self (Obj.putSet es' t') ho (by rw[putSet_of es' t' hd];rfl)
 rw[putSet_of es' t' hd]at this;exact this
theorem wQ {α:Type}{xs:List α}(hp:order.Perm (List.range xs.length)):(order.filterMap λi=>xs[i]?).Perm xs:=by
 have:=hp.filterMap (λi=>xs[i]?)
 rw[List.filterMap_getElem?_range_length]at this
 exact this
theorem lZ {α β:Type}(f:α->β){xs:List α} :(order.filterMap λi=>(xs.map f)[i]?)=(order.filterMap λi=>xs[i]?).map f:=by
 rw[List.map_filterMap]
 congr 1
 funext i
 rw[ah]
theorem Bv {hs:List Int}(hp:order.Perm (List.range hs.length)):(order.map λi=>hs.getD i 0)=order.filterMap λi=>hs[i]? :=by
 have lS:∀ i∈order,i<hs.length:=λi hi=>bG.mp (hp.mem_iff.mp hi)
 clear hp
 induction order with
 |nil=>rfl
 |cons x l ih=>
  have hx:=lS x au
  rw[aN,cj,aO hx,ih λi hi=>lS i (aq _ hi),ba,aO hx]
  rfl
theorem vX {α β:Type}(f:α->β)(xs:List α)(x:α)(p:Nat):(xs.map f).take p++f x::(xs.map f).drop p=(xs.take p++x::xs.drop p).map f:=by
 rw[aC,aN,cV,cW]
theorem tS {o:Obj}{ep:Nat}{xs:List (List K×Addr)}{k:List K}
  (ho:s.heap.get? a=some o) (hex:o.ExactSet) (hd:o.data = .set es ep t) (he:es.toList=xs.map (zv knd)) (hnd:(xs.map (·.1)).Nodup) (W:WFT t (xs.map λx=>tupleKeyHash knd x.1)) (vZ:xs.length<2000)
  (hn:k∉xs.map (·.1)) {m0:Nat} (g1:(pAt t.mask (tupleKeyHash knd k) m0).j∉t.place.toList) (g2:∀ m,m<m0->(pAt t.mask (tupleKeyHash knd k) m).j∈t.place.toList)
  (zo:∀ h' xs',Heap.SameBut a s.heap h'->lK knd h' a xs'->xs'.Perm (xs ++ [(k,b)])->Q true {s with heap:=h'}) {t2:SetTable}{c:Bool} (ht:t2 = {(t.put (pAt t.mask (tupleKeyHash knd k) m0).j).1 with plain:=c}) {n:Nat} (hnn:n=es.size+1):
  wpAny (model prog w) A (do
   storeSet a (SetTable.insertAt es (t.put (pAt t.mask (tupleKeyHash knd k) m0).j).2 (tupleKeyHash knd k,Value.ref b)) t2
   if(!false&&t2.tooFull)=true then do
    setRelay a (SetTable.grown n)
    pure true
   else pure true) Q E s:=by
 have hsz:es.size=xs.length:=by rw[<-aK,he,aa]
 generalize hp:(t.put (pAt t.mask (tupleKeyHash knd k) m0).j).2=p
 have hp':p=SetTable.below t.place (pAt t.mask (tupleKeyHash knd k) m0).j:=by rw[<-hp];rfl
 have Xt:p<=xs.length:=by
  have h1:=(pj W.rise (pAt t.mask (tupleKeyHash knd k) m0).j).1
  have h2:=W.len
  rw[aa]at h2
  omega
 generalize hes:SetTable.insertAt es p (tupleKeyHash knd k,Value.ref b)=es1
 have he1:es1.toList=(xs.take p++(k,b)::xs.drop p).map (zv knd):=by
  rw[<-hes,dg,he]
  exact vX (zv knd) xs (k,b) p
 have ua:(xs.take p++(k,b)::xs.drop p).Perm (xs ++ [(k,b)]):=by
  refine dq.trans ?_
  rw[cJ]
  exact(List.perm_append_singleton (k,b) xs).symm
 have hl1:(xs.take p++(k,b)::xs.drop p).length=xs.length+1:=by rw[ua.length_eq];simp
 have hs1:es1.size=xs.length+1:=by rw[<-aK,he1,aa,hl1]
 have K0:((xs.take p++(k,b)::xs.drop p).map (·.1)).Nodup:=by
  refine(ua.map (·.1)).nodup_iff.mpr ?_
  rw[aC]
  refine cM.mpr ⟨hnd,by simp,λx hx y hy=>?_⟩
  simp at hy
  subst hy
  exact λz=>hn (z ▸ hx)
 have hh1:(xs.take p++(k,b)::xs.drop p).map (λx=>tupleKeyHash knd x.1)=(xs.map λx=>tupleKeyHash knd x.1).take p++tupleKeyHash knd k::(xs.map λx=>tupleKeyHash knd x.1).drop p:=
  (vX (λx=>tupleKeyHash knd x.1) xs (k,b) p).symm
 have Ic:t2.mask=t.mask:=by rw[ht];rfl
 have KW:t2.place.size=xs.length+1:=by
  have h2:=W.len
  rw[aa]at h2
  have:t2.place=SetTable.insertAt t.place p (pAt t.mask (tupleKeyHash knd k) m0).j:=by rw[ht,hp'];rfl
  rw[this,<-aK,dg,aG,aH,aI,bp,aK]
  omega
 have K8:t2.dummies = #[]:=by
  rw[ht]
  show(if SetTable.has t.dummies _ then SetTable.eraseAt t.dummies _ else t.dummies) = #[]
  rw[W.dum]
  simp[SetTable.has]
 have Ig:t2.fill=xs.length+1:=by unfold SetTable.fill;rw[KW,K8];rfl
 have Jt:=W.room
 rw[aa]at Jt
 have h7:7<=t.mask:=by
  obtain⟨q,q1,q2⟩:=W.pow
  have:2 ^ 3<=2 ^ q:=dy (by decide) q1
  omega
 have hz1:es1.size<=sizeLine:=by rw[hs1,aE];omega
 refine ae (wpAny_storeSet_of ho hd ?_ hz1)
 have ho1:=ES ho hd es1 t2
 have sb1:Heap.SameBut a s.heap (s.heap.update a (Obj.putSet es1 t2)):=Heap.SameBut.update s.heap a (Obj.putSet es1 t2)
 by_cases full:t2.tooFull=true
 ·rw[full]
  simp only[Bool.not_false,Bool.and_self,df]
  unfold setRelay
  have K6:t2.fits es1.size=true:=by
   simp only[SetTable.fits,Ig,KW,hs1,dj,Bool.true_and,cq,Ic]
   omega
  refine ae (ae (cS (s:={s with heap:=s.heap.update a (Obj.putSet es1 t2)}) ho1 rfl K6 ?_))
  dsimp only
  have hgr:SetTable.grown n=4*(xs.length+1):=by
   unfold SetTable.grown
   rw[ak (by omega)]
   omega
  obtain⟨q,q1,q2,q3⟩:=yG (n:=SetTable.grown n) (by rw[hgr];omega)
  have hle:SetTable.sizeAbove (SetTable.grown n)<=2 ^ 13:=rM 64 8 _ 13 ⟨3,by decide,rfl⟩ (by rw[hgr];omega)
  rw[ak (by rw[aE];omega)]
  generalize Sl:SetTable.sizeAbove (SetTable.grown n)=big at q2 q3 hle
  have hhs:(es1.map (·.1)).toList=(xs.take p++(k,b)::xs.drop p).map (λx=>tupleKeyHash knd x.1):=by
   rw[Array.toList_map,he1,aY];rfl
  have K4:(es1.map (·.1)).size=xs.length+1:=by rw[Array.size_map];exact hs1
  have hb8:2 ^ 13=8192:=by decide
  obtain⟨t3,order,e3,_,_,pe,W3⟩:=Hn (mask:=big-1) (p:=q) (by omega) q1 (hs:=es1.map (·.1)) (by rw[K4];omega) (by omega) t2.finger (t2.movedTo (big-1)) t2.led t2.plain
  have e3':t2.relaid (es1.map (·.1)) (SetTable.grown n)=some (t3,order):=by
   unfold SetTable.relaid
   rw[Sl];exact e3
  rw[e3']
  refine ae ?_
  have pe':order.toList.Perm (List.range (xs.take p++(k,b)::xs.drop p).length):=by rw[hl1,<-K4];exact pe
  have he2:(order.filterMap (es1[·]?)).toList=((order.toList.filterMap λi=>(xs.take p++(k,b)::xs.drop p)[i]?)).map (zv knd):=by
   rw[Array.toList_filterMap,<-lZ,<-he1]
   congr 1
   funext i
   rw[bE]
  have hpm:=wQ pe'
  have hs2:(order.filterMap (es1[·]?)).size=es1.size:=by
   rw[<-aK,he2,aa,hpm.length_eq,hl1,hs1]
  have hne:((order.filterMap (es1[·]?)).size !=es1.size)=false:=by rw[hs2];simp
  show wpAny _ _ (if((order.filterMap (es1[·]?)).size !=es1.size)=true then _ else _) _ _ _
  rw[hne,ak ax]
  refine ao ?_
  dsimp only
  refine wpAny_storeSet_of (s:={s with heap:=s.heap.update a (Obj.putSet es1 t2)}) ho1 rfl ?_ (by rw[hs2];exact hz1)
  refine ao (zo _ _ (sb1.trans (Heap.SameBut.update _ a _)) ⟨_,_,_,t3,ES ho1 rfl _ _,hex,rfl,he2,?_,?_⟩ (hpm.trans ua))
  ·exact((hpm.map (·.1)).nodup_iff).mpr K0
  ·have:(order.toList.map λi=>(es1.map (·.1)).getD i 0)=(order.toList.filterMap λi=>(xs.take p++(k,b)::xs.drop p)[i]?).map (λx=>tupleKeyHash knd x.1):=by
    rw[<-lZ,<-hhs,<-Bv (by rw[hhs,aa];exact pe')]
    congr 1
    funext i
    simp[Array.getD_eq_getD_getElem?,ba]
   rw[<-this]
   exact W3
 ·have CK:t2.tooFull=false:=by cases h:t2.tooFull with |false=>rfl |true=>exact(full h).elim
  rw[CK]
  simp only[Bool.and_false,aX,cb]
  refine ao (zo _ _ sb1 ⟨_,es1,ep+1,t2,ho1,hex,rfl,he1,K0,?_⟩ ua)
  rw[hh1,ht,<-hp]
  refine W.put g1 g2 c ?_
  rw[aa]
  unfold SetTable.tooFull at CK
  rw[Ig,Ic]at CK
  simp at CK
  omega
theorem wC {xs:List (List K×Addr)}{k:List K}(hu:A.units<cLine)(hsc:∀ k v,knd.is k v=true->v.scannable=true)(hS:lK knd s.heap a xs)
  (hx:∀ x∈xs,IsTupleKey knd s.heap x.1 x.2) (hk:IsTupleKey knd s.heap k b) (vZ:xs.length<2000)
  (hold:k∈xs.map (·.1)->Q false s) (zo:k∉xs.map (·.1)->∀ h' xs',Heap.SameBut a s.heap h'->lK knd h' a xs'->xs'.Perm (xs ++ [(k,b)])->Q true {s with heap:=h'}):
  wpAny (model prog w) A (setAddHashed a (.ref b) (tupleKeyHash knd k)) Q E s:=by
 obtain⟨o,es,ep,t,ho,hex,hd,he,hnd,W⟩:=hS
 have hsz:es.size=xs.length:=by rw[<-aK,he,aa]
 have zr:t.fits es.size=true:=by have:=W.fits;rw[aa]at this;rw[hsz];exact this
 unfold setAddHashed setAddHashedIn
 refine bc (ae (cS ho hd zr ?_))
 dsimp only
 rw[wm]
 simp only[aX,cb]
 refine ae (xy hu ho hd he hnd W hx hk (λi y hi=>?_) λhn m0 g1 g2=>?_)
 ·exact ao (hold (aA.mpr ⟨_,aB hi,rfl⟩))
 ·dsimp only
  refine ae (cS ho hd zr ?_)
  dsimp only
  have tl:∀ (bv:Bool),wpAny (model prog w) A (do
   storeSet a (SetTable.insertAt es (t.put (pAt t.mask (tupleKeyHash knd k) m0).j).2 (tupleKeyHash knd k,Value.ref b)) (if bv=true then(t.put (pAt t.mask (tupleKeyHash knd k) m0).j).1 else {(t.put (pAt t.mask (tupleKeyHash knd k) m0).j).1 with plain:=false})
   if(!false&&(if bv=true then(t.put (pAt t.mask (tupleKeyHash knd k) m0).j).1 else {(t.put (pAt t.mask (tupleKeyHash knd k) m0).j).1 with plain:=false}).tooFull)=true then do
    setRelay a (SetTable.grown (es.size+1))
    pure true
   else pure true) Q E s:=λbv=>by
   cases bv with
   |true=>exact tS ho hex hd he hnd W vZ hn g1 g2 (zo hn) (c:=(t.put (pAt t.mask (tupleKeyHash knd k) m0).j).1.plain) (by rw[av rfl]) rfl
   |false=>exact tS ho hex hd he hnd W vZ hn g1 g2 (zo hn) (c:=false) (by rw[ak ax]) rfl
  split
  ·exact ae (Dn hk hsc tl)
  ·exact ae (ao (tl true))
theorem B1 {xs:List (List K×Addr)}{k:List K}(hu:A.units<cLine)(hsc:∀ k v,knd.is k v=true->v.scannable=true)(hS:lK knd s.heap a xs)
  (hx:∀ x∈xs,IsTupleKey knd s.heap x.1 x.2) (hk:IsTupleKey knd s.heap k b) (vZ:xs.length<2000)
  (hold:k∈xs.map (·.1)->Q false {s with toks:=s.toks+(k.length+1)}) (zo:k∉xs.map (·.1)->∀ h' xs',Heap.SameBut a s.heap h'->lK knd h' a xs'->xs'.Perm (xs ++ [(k,b)])->Q true {s with heap:=h',toks:=s.toks+(k.length+1)}):
  wpAny (model prog w) A (setAdd a (.ref b)) Q E s:=by
 unfold setAdd
 refine bc ?_
 refine ae (wpAny_pyHash_tuple hu hk ?_)
 exact wC (s:={s with toks:=s.toks+(k.length+1)}) hu hsc hS hx hk vZ hold zo
theorem xo {xs:List (List K×Addr)}{k:List K}{Q:Value->Shared->Prop}(hu:A.units+1<cLine)(hsc:∀ k v,knd.is k v=true->v.scannable=true)(hS:lK knd s.heap a xs)
  (hx:∀ x∈xs,IsTupleKey knd s.heap x.1 x.2) (hk:IsTupleKey knd s.heap k b) (vZ:xs.length<2000)
  (hold:k∈xs.map (·.1)->Q .none {s with toks:=s.toks+(k.length+1)}) (zo:k∉xs.map (·.1)->∀ h' xs',Heap.SameBut a s.heap h'->lK knd h' a xs'->xs'.Perm (xs ++ [(k,b)])->Q .none {s with heap:=h',toks:=s.toks+(k.length+1)}):
  wpAny (model prog w) A (call (.builtin "set.add") [.ref a,.ref b]) Q E s:=by
 refine wpAny_call_entry F.slot_set_add hS.typeIs F.entry_set_add ?_ (F.args_set_add_2 _ _)
 unfold Builtin.«set.add» Builtin.Frozenset.oneOther
 simp only[List.isEmpty_nil,bind_assoc]
 unfold Builtin.Frozenset.addrOf
 refine ae (ao ?_)
 try dsimp only
 refine ae (ao ?_)
 try dsimp only
 refine ae (B1 (eF (knd:=knd) hu) hsc hS hx hk vZ (λz=>?_) λz h' xs' q1 q2 q3=>?_)
 ·show wpAny _ _ (ret Value.none) _ _ _
  exact ao ⟨_,rfl,hold z⟩
 ·show wpAny _ _ (ret Value.none) _ _ _
  exact ao ⟨_,rfl,zo z h' xs' q1 q2 q3⟩
end
open PySem.Spec PyProof.Rows L2
noncomputable def nQ (P:Program)(w:World)(a:Addr)(xs:List (List Key×Addr)):HO:=.ext λh=>lK (gq P w) h a xs
noncomputable abbrev keysOf (xs:List (List Key×Addr)):List (List Key):=xs.map λx=>x.1
noncomputable def inK (k:List Key)(xs:List (List Key×Addr)):Bool:=xs.any λx=>decide (x.1=k)
theorem zm {k:List Key}{xs:List (List Key×Addr)} :inK k xs=true↔k∈keysOf xs:=by
 unfold inK keysOf
 rw[dt,aA]
 exact⟨λ⟨x,h,e⟩=>⟨x,h,cc e⟩,λ⟨x,h,e⟩=>⟨x,h,cP e⟩⟩
noncomputable def tM (K:PySem.W.Frag)(H:Hp)(xs:List (List Key×Addr)):Prop:=∀ x∈xs,SqT K H x.2 (x.1.map kV)
theorem Ay {P:Program}{w:World} :∀ (k:Key) (v:Value),(gq P w).is k v=true->v.scannable=true:=λk v h=>by
 rcases hG (k:=k) (v:=v) h with⟨i,t,_,rfl⟩|⟨x,t,_,rfl⟩<;>rfl
theorem lK.rf {P:Program}{w:World}{h1 h2:Heap}{xs:List (List Key×Addr)}(p:lK (gq P w) h1 a xs)(k:∀ o,h1.get? a=some o->h2.get? a=some o):lK (gq P w) h2 a xs:=by
 obtain⟨o,es,ep,t,ho,r⟩:=p
 exact⟨o,es,ep,t,k _ ho,r⟩
theorem lK.obj {P:Program}{w:World}{h:Heap}{H:Hp}{xs:List (List Key×Addr)}(p:lK (gq P w) h a xs):jv P w H h a (nQ P w a xs):=by
 obtain⟨o,es,ep,t,ho,r⟩:=id p
 exact⟨p,⟨o,ho⟩,λh1 h2 q k=>q.rf k⟩
section
variable {X:Cx}{pins:List (Addr×Obj)}{σ:St}{H:Hp}{s:Shared}
theorem Inv.GW {l:Addr}{xs:List (List Key×Addr)}(I:Inv X pins σ H s)(h:H l=some (nQ X.prog X.w l xs)):lK (gq X.prog X.w) s.heap l xs:=(I.hok l _ h).1
theorem Inv.Jn {k:List Key}(I:Inv X pins σ H s)(h:SqT X.K H b (k.map kV)):IsTupleKey (gq X.prog X.w) s.heap k b:=by
 obtain⟨its,r,⟨o,h1,h2,n,h3⟩,z⟩:=I.tuple h
 exact⟨o,its.toArray,n,h1,h2,h3,by simpa using ye r⟩
theorem Inv.F5 {xs:List (List Key×Addr)}(I:Inv X pins σ H s)(h:tM X.K H xs):∀ x∈xs,IsTupleKey (gq X.prog X.w) s.heap x.1 x.2:=λx hx=>Inv.Jn I (h x hx)
theorem IZ (hu:X.A.units+1<cLine):OpR X (compareOp .In) (λx y H Q=>∃ (l:Addr) (xs:List (List Key×Addr)) (k:List Key) (b:Addr),x = .ref b/\y = .ref l/\H l=some (nQ X.prog X.w l xs)/\tM X.K H xs/\SqT X.K H b (k.map kV)/\Q (.bl (inK k xs)) H):=by
 intro pins s σ H x y v u Q I rx ry h
 obtain⟨l,xs,k,b,rfl,rfl,hH,ht,hb,q⟩:=h
 cases rx
 cases ry
 show wpAny _ _ (do return Value.bool (<-contains (.ref l) (.ref b))) _ _ s
 refine ae (yr hu (Inv.GW I hH) (Inv.F5 I ht) (Inv.Jn I hb) λc hc=>?_)
 have e:c=inK k xs:=bT.mpr (hc.trans zm.symm)
 exact ao ⟨.bl (inK k xs),H,I.tok _,(by rw[e];rfl),q⟩
noncomputable def II (P:Program)(w:World)(K:PySem.W.Frag):V->List V->Hp->VK->Prop:=λx vs H Q=>∃ (l:Addr) (xs:List (List Key×Addr)) (k:List Key) (b:Addr),x = .ref l/\vs = [.ref b]/\H l=some (nQ P w l xs)/\tM K H xs/\SqT K H b (k.map kV)/\xs.length<2000/\
 (k∈keysOf xs->Q .non H)/\(k∉keysOf xs->∀ xs',xs'.Perm (xs ++ [(k,b)])->Q .non (upd H l (nQ P w l xs')))
theorem FN (hu:X.A.units+1<cLine):MtR X "set.add" (II X.prog X.w X.K):=by
 intro pins s σ H x vs v us Q I rx rv h
 obtain⟨l,xs,k,b,rfl,rfl,hH,ht,hb,hz,q1,q2⟩:=h
 cases rx
 obtain⟨u,rfl,rb⟩:=rv.one
 cases rb
 refine xo hu Ay (Inv.GW I hH) (Inv.F5 I ht) (Inv.Jn I hb) hz (λz=>⟨.non,H,I.tok _,rfl,q1 z⟩) λz h' xs' sb hS p=>?_
 refine⟨.non,_,I.write (t':=s.toks+(k.length+1)) (o:=nQ X.prog X.w l xs') (x:=l) (e:=l) (by rw[hH];exact trivial) (.inl rfl) (λb u hb e=>sb.extBut b u hb e) ?_ hS.obj,rfl,q2 z xs' p⟩
 obtain⟨o,_,_,_,e,_⟩:=hS;exact⟨o,e⟩
theorem Ez:jY X (.builtin "len") (λxs H Q=>∃ p ys,xs = [.ref p]/\H p=some (nQ X.prog X.w p ys)/\Q (.int ys.length) H):=by
 intro pins s σ H xs us Q I r h
 obtain⟨p,ys,rfl,hH,q⟩:=h
 obtain⟨u,rfl,rx⟩:=vals1 r
 cases rx
 obtain⟨o,es,ep,t,ho,hex,hd,he,hnd,W⟩:=Inv.GW I hH
 have hsz:es.size=ys.length:=by rw[<-aK,he,aa]
 have zr:t.fits es.size=true:=by have:=W.fits;rw[aa]at this;rw[hsz];exact this
 have h1:=W.room
 have h2:=W.small
 rw[aa]at h1
 exact call_len_set ho hex hd zr (by omega) ⟨.int ys.length,H,I.tok _,⟨_,by rw[hsz]⟩,q⟩
theorem BU:jY X (.type "set") (λxs H Q=>xs = []/\∀ p,H p=none->Q (.ref p) (upd H p (nQ X.prog X.w p []))):=by
 intro pins s σ H xs us Q I r h
 obtain⟨rfl,q⟩:=h
 cases r
 refine call_set_0 λled=>?_
 have hS:lK (gq X.prog X.w) (s.heap.push {cls:=.type "set",dict:=none,data:=.set #[] 0 (.fresh 0 0 led)}) s.heap.objs.size []:=
  ⟨_,#[],0,_,aM _ rfl,⟨rfl,rfl,rfl⟩,rfl,rfl,dh,WFT.fresh _ _ _⟩
 exact⟨.ref _,_,I.laid (t':=s.toks) (o:=nQ X.prog X.w s.heap.objs.size []) (λb u e=>aj _ e) (aw _) hS.obj,rfl,q _ I.fresh⟩
end
structure Met (ps:List (List Key×Addr))(i:Nat)(xs:List (List Key×Addr)):Prop where
 sub:∀ x∈xs,x∈ps
 key:∀ k,k∈keysOf xs↔k∈keysOf (ps.take i)
 nd:(keysOf xs).Nodup
theorem Met.zero (ps:List (List Key×Addr)):Met ps 0 []:=⟨λx h=>(nomatch h),λk=>by simp[keysOf],dh⟩
variable {ps:List (List Key×Addr)}
theorem t9 {i:Nat}{k:List Key}(h:ps[i]? = some (k,b))(k':List Key):k'∈keysOf (ps.take (i+1))↔k'∈keysOf (ps.take i)\/k'=k:=by
 unfold keysOf
 rw[bx,h,aC,aL]
 simp
theorem Met.old {i:Nat}{xs:List (List Key×Addr)}{k:List Key}(M:Met ps i xs)(h:ps[i]? = some (k,b))(hk:k∈keysOf xs):Met ps (i+1) xs:=
 ⟨M.sub,λk'=>by rw[t9 h,<-M.key];exact⟨.inl,λz=>z.elim id λe=>e ▸ hk⟩,M.nd⟩
theorem Met.new {i:Nat}{xs xs':List (List Key×Addr)}{k:List Key}(M:Met ps i xs)(h:ps[i]? = some (k,b))(hk:k∉keysOf xs)(hp:xs'.Perm (xs ++ [(k,b)])):Met ps (i+1) xs':=by
 have sk:(keysOf xs').Perm (keysOf xs ++ [k]):=by
  have:=hp.map λx:List Key×Addr=>x.1
  rwa [aC]at this
 refine⟨λx hx=>?_,λk'=>?_,?_⟩
 ·rcases aL.mp (hp.mem_iff.mp hx)with z |z
  ·exact M.sub x z
  ·rw[bL]at z;subst z;exact aB h
 ·rw[t9 h,<-M.key,sk.mem_iff,aL,bL]
 ·refine sk.nodup_iff.mpr (cM.mpr ⟨M.nd,by simp,λx hx y hy=>?_⟩)
  rw[bL]at hy
  subst hy
  exact λz=>hk (z ▸ hx)
theorem mD {α:Type} [DecidableEq α]:∀ {l m:List α},l.Nodup->(∀ x∈l,x∈m)->l.length<=m.length
 |[],m,_,_=>aV _
 |x::l,m,hn,hs=>by
  rw[bI]at hn
  have hx:=hs x au
  have:=@mD α _ l (m.erase x) hn.2 λy hy=>by
   refine(List.mem_erase_of_ne ?_).mpr (hs y (aq _ hy))
   rintro rfl
   exact hn.1 hy
  have h2:=eD hx
  have h3:0<m.length:=List.length_pos_of_mem hx
  rw[aH]
  omega
theorem zd {α:Type} [DecidableEq α]:∀ {l m:List α},l.Nodup->(∀ x∈l,x∈m)->m.length<=l.length->m.Nodup:=by
 intro l
 induction l with
 |nil=>
  intro m _ _ hl
  have:m = []:=cD (by simpa using hl)
  subst this;exact dh
 |cons x l ih=>
  intro m hn hs hl
  rw[bI]at hn
  have hx:=hs x au
  have h2:=eD hx
  have h3:0<m.length:=List.length_pos_of_mem hx
  have BN:∀ y∈l,y∈m.erase x:=λy hy=>by
   refine(List.mem_erase_of_ne ?_).mpr (hs y (aq _ hy))
   rintro rfl
   exact hn.1 hy
  have he:=ih (m:=m.erase x) hn.2 BN (by rw[aH]at hl;omega)
  refine(List.perm_cons_erase hx).nodup_iff.mpr (bI.mpr ⟨λz=>?_,he⟩)
  have:=mD (l:=x::l) (m:=m.erase x) (bI.mpr hn) λy hy=>(ay.mp hy).elim (λe=>e ▸ z) (BN y)
  rw[aH]at this hl
  omega
theorem Met.lt {xs:List (List Key×Addr)}(M:Met ps ps.length xs):xs.length<ps.length↔¬(keysOf ps).Nodup:=by
 have Gg:∀ k,k∈keysOf xs↔k∈keysOf ps:=λk=>by have:=M.key k;rwa [bo]at this
 have e1:(keysOf xs).length=xs.length:=aa _
 have e2:(keysOf ps).length=ps.length:=aa _
 constructor
 ·intro h hn
  have:=mD hn λk hk=>(Gg k).mpr hk
  omega
 ·intro hn
  refine aU λc=>hn ?_
  have hle:=mD M.nd λk hk=>(Gg k).mp hk
  exact zd M.nd (λk hk=>(Gg k).mp hk) (by omega)
section
variable {prog:Program}{w:World}{A:Around}{R:Result->Shared->Prop}{I:Addr}{fp wr:List Addr}{G:Array GenState->Array GenState->Prop}{n:Nat}{P:Nat->Value->Prop}{St:Nat->Shared->Prop}
theorem IsTupleKey.at {knd:KeyKind prog w Key}{h h':Heap}{k:List Key}(x:IsTupleKey knd h k b)(e:∀ o,h.get? b=some o->h'.get? b=some o):IsTupleKey knd h' k b:=by
 obtain⟨o,items,n,ho,r⟩:=x
 exact⟨o,items,n,e _ ho,r⟩
theorem DY (hu:A.units+1<cLine)(W:WalksS prog w A.in1 I fp wr G n P St)(S:Addr)(hSf:S∉fp)(ps:List (List Key×Addr))(hn:ps.length=n)(hz:n<2000)
  (Jq:∀ i v,P i v->∃ k b,ps[i]? = some (k,b)/\v = .ref b) (hps:∀ p∈ps,p.2≠S/\p.2∉wr):
  ∀ (k i:Nat) (s:Shared) (xs:List (List Key×Addr)),n-i=k->i<=n->St i s->(∀ p∈ps,IsTupleKey (gq prog w) s.heap p.1 p.2)->
   lK (gq prog w) s.heap S xs->Met ps i xs->
   (∀ s' xs',Moved (S::wr) G s s'->lK (gq prog w) s'.heap S xs'->Met ps n xs'->R (.ok (.ret .none)) s')->
   codeAny (model prog w) A (.builtin "set.update.loop" ⟨[.ref S,.ref I],[]⟩) R s:=by
 have hSw:S∉wr:=λh=>hSf (W.sub _ h)
 have BN:∀ b∈wr,b∈S::wr:=λb hb=>aq _ hb
 intro k
 induction k with
 |zero=>
  intro i s xs hk hi hst ht hS hM hR
  have hin:i=n:=by omega
  subst hin
  refine codeAny_builtin F.entry_set_update_loop ?_
  rw[Around.under_plainId dU _]
  show wpAny _ A.in1 (pyNext (.ref I) >>= _) _ _ s
  refine ae (W.done s _ _ hst λs' hm=>?_)
  show wpAny _ A.in1 (ret Value.none) _ _ s'
  exact ao (hR s' xs (hm.mono BN) (hS.rf λo ho=>hm.heap S _ hSw ho) hM)
 |succ k ih=>
  intro i s xs hk hi hst ht hS hM hR
  have hlt:i<n:=by omega
  refine codeAny_builtin F.entry_set_update_loop ?_
  rw[Around.under_plainId dU _]
  show wpAny _ A.in1 (pyNext (.ref I) >>= _) _ _ s
  refine ae (W.item i s _ _ hlt hst λv s' hP KU hm=>?_)
  obtain⟨ky,b,hpi,rfl⟩:=Jq i v hP
  have hS':lK (gq prog w) s'.heap S xs:=hS.rf λo ho=>hm.heap S _ hSw ho
  have ht':∀ p∈ps,IsTupleKey (gq prog w) s'.heap p.1 p.2:=λp hp=>IsTupleKey.at (ht p hp) λo ho=>hm.heap _ _ (hps p hp).2 ho
  show wpAny _ A.in1 (holding [Value.ref b] (setAdd S (.ref b)) >>= _) _ _ s'
  refine ae (bc ?_)
  have hlen:xs.length<2000:=by
   have:=mD hM.nd (m:=keysOf (ps.take i)) λk hk=>(hM.key k).mp hk
   unfold keysOf at this
   rw[aa,aa,aI]at this
   omega
  refine B1 (eF (knd:=gq prog w) hu) Ay hS' (λx hx=>ht' x (hM.sub x hx)) (ht' (ky,b) (aB hpi)) hlen (λhin=>?_) λSh h' xs' hsb hS2 ua=>?_
  ·refine ao ⟨plainId_quiet dU _,ih (i+1) _ xs (by omega) hlt (W.frame _ s' _ _ KU (bW _ _) λb hb o e=>e) ht' hS' (hM.old hpi hin) λs'' Ir Jx JA JB=>?_⟩
   exact hR s'' Ir (Moved.trans W.gtrans ((hm.mono BN).then_heap (bW _ _) λb o hb e=>e) Jx) JA JB
  ·refine ao ⟨plainId_quiet dU _,ih (i+1) _ xs' (by omega) hlt (W.frame _ s' _ _ KU (bW _ _) λb hb o e=>?_) (λp hp=>IsTupleKey.at (ht' p hp) λo ho=>?_) hS2 (hM.new hpi Sh ua) λs'' Ir Jx JA JB=>?_⟩
   ·show h'.get? b=some o
    rw[hsb.2 b (λh:b=S=>hSf (by rw[<-h];exact hb))];exact e
   ·show h'.get? _=some o
    rw[hsb.2 _ (hps p hp).1];exact ho
   ·refine hR s'' Ir (Moved.trans W.gtrans ((hm.mono BN).then_heap (bW _ _) λb o hb e=>?_) Jx) JA JB
    show h'.get? b=some o
    rw[hsb.2 b (λh:b=S=>hb (by rw[h];exact au))];exact e
end
section
variable {prog:Program}{w:World}{A:Around}{E:Value->Shared->Prop}{s:Shared}
theorem wk {l:Addr}{items:Array Value}{Q:Value->Shared->Prop}(hu:A.units+4<cLine)
  (hh:A.handled=none) (hl:s.heap.IsList l items) (hi:items.toList=ps.map λp=>Value.ref p.2) (hk:∀ p∈ps,IsTupleKey (gq prog w) s.heap p.1 p.2) (hb:ps.length<2000)
  (h:∀ (h':Heap) (tk:Nat) xs,lK (gq prog w) h' s.heap.objs.size xs->Met ps ps.length xs->
   (∀ b o,b<s.heap.objs.size->s.heap.get? b=some o->h'.get? b=some o)->Q (.ref s.heap.objs.size) {s with heap:=h',toks:=tk}):
  wpAny (model prog w) A (call (.type "set") [.ref l]) Q E s:=by
 obtain⟨c,tl,Xu⟩:=bV.mro
 have Xf:=bV.made
 have BN:=bV.sub
 have hsz:items.size=ps.length:=by rw[<-aK,hi,aa]
 have K2:∀ p∈ps,p.2<s.heap.objs.size:=λp hp=>by obtain⟨o,_,_,ho,_⟩:=hk p hp;exact ar ho
 refine wpAny_call (codeAny_of_tree ?_)
 show wpAny _ _ (callAny (.type "set") _) _ _ _
 refine ao ⟨Code.quiet_builtin _ (by decide +kernel),codeAny_builtin PySem.F.entry_type_call ?_⟩
 rw[Around.under_plain (weight_type_call_type "set" [.ref l] []) rfl]
 have h1:=bV.notType
 have h2:=bV.canCreate
 have hct:=PySem.F.typeCall_set_1 (.ref l)
 repeat (any_goals (first |assumption |wp_step))
 refine cZ (code_set_new_1 (.ref l) (E:=E) (Q₁:=λobj s₁=>∃ led:Bool,obj = .ref s.heap.objs.size/\s₁ = {s with heap:=s.heap.push {cls:=.type "set",dict:=none,data:=.set #[] 0 (.fresh 0 0 led)}}) λled=>⟨led,rfl,rfl⟩) λr s₁ hr=>?_
 cases r with
 |error e=>exact hr
 |ok fl=>
  cases fl with
  |ret obj=>
   obtain⟨led,rfl,rfl⟩:=hr
   have hS:(s.heap.push {cls:=.type "set",dict:=none,data:=.set #[] 0 (.fresh 0 0 led)}).get? s.heap.objs.size=some {cls:=.type "set",dict:=none,data:=.set #[] 0 (.fresh 0 0 led)} :=aM _ rfl
   have hT:Shared.TypeIs {s with heap:=s.heap.push {cls:=.type "set",dict:=none,data:=.set #[] 0 (.fresh 0 0 led)}} (.ref s.heap.objs.size) "set" :=⟨_,hS,rfl⟩
   have hli:=bV.init.lookup
   have hbi:=bV.init.bind (.ref s.heap.objs.size)
   repeat (any_goals (first |assumption |wp_step))
   refine cZ (codeAny_call_builtin (R:=wants (λr s₂=>r = .none/\∃ h' tk xs,s₂ = {s with heap:=h',toks:=tk} /\
     lK (gq prog w) h' s.heap.objs.size xs/\Met ps ps.length xs/\
     (∀ b o,b<s.heap.objs.size->s.heap.get? b=some o->h'.get? b=some o)) E) bV.init.plain PySem.F.entry_set_init (check_set_init_1 hT ?_)) λr₂ s₂ hr₂=>?_
   ·obtain⟨ol,hol,hcl,nl,hdl⟩:=hl
    obtain⟨Xh,Kz,Xe,IX⟩:=ol
    simp only at hcl hdl
    subst hcl;subst hdl
    have Sd:(s.heap.push {cls:=.type "set",dict:=none,data:=.set #[] 0 (.fresh 0 0 led)}).get? l=some {cls:=.type "list",dict:=Kz,data:=.seq items nl,slots:=IX} :=aj _ hol
    have Xp:=PySem.F.sub_list_set
    have Xq:=PySem.F.sub_list_frozenset
    have hne:(Value.type "list" == Value.type "dict")=false:=by decide
    have hl1:(s.heap.push {cls:=.type "set",dict:=none,data:=.set #[] 0 (.fresh 0 0 led)}).IsList l items:=⟨_,Sd,rfl,nl,rfl⟩
    unfold Builtin.«set.__init__» noKeywords Builtin.Frozenset.updateFrom
    generalize hPI:pyIter=PI
    wp_walk
    subst hPI
    refine dw hl1 ?_
    refine ae (wpAny_runValue ?_)
    have hlS:l<s.heap.objs.size:=ar hol
    have hh3:A.in1.in1.in1.handled=none:=by simp[hh]
    have Jv:l≠(s.heap.push {cls:=.type "set",dict:=none,data:=.set #[] 0 (.fresh 0 0 led)}).objs.size:=by
     rw[cY];exact aD (ez hlS)
    have hSf:s.heap.objs.size∉ [(s.heap.push {cls:=.type "set",dict:=none,data:=.set #[] 0 (.fresh 0 0 led)}).objs.size,l]:=by
     rw[cY];simp only[ay,bL,aW,b9,not_or]
     exact⟨aD (eI _),Nat.ne_of_gt hlS⟩
    have Jq:∀ (i:Nat) (v:Value),items[i]? = some v->∃ k b,ps[i]? = some (k,b)/\v = .ref b:=λi v hv=>by
     rw[<-bE,hi,ah]at hv
     cases q:ps[i]? with
     |none=>rw[q]at hv;cases hv
     |some p=>rw[q]at hv;cases hv;exact⟨p.1,p.2,rfl,rfl⟩
    refine DY (by simp;omega) ((Walks.list hh3 _ l Jv items).toS) s.heap.objs.size
     hSf ps hsz.symm (by omega) Jq (λp hp=>⟨aD (K2 p hp),?hw⟩) (items.size-0) 0 _ [] (by omega) (aV _)
     ⟨⟨_,aM _ rfl,rfl,rfl⟩,(hl1.push _)⟩ ?hT0 ?hS0 (Met.zero ps) ?hR
    case hw=>
     rw[cY];simp only[ay,bL,aW,b9]
     exact aD (ez (K2 p hp))
    case hT0=>
     exact λp hp=>IsTupleKey.at (hk p hp) λo ho=>aj _ (aj _ ho)
    case hS0=>
     have Gi:((s.heap.push {cls:=.type "set",dict:=none,data:=.set #[] 0 (.fresh 0 0 led)}).push {cls:=.type "list_iterator",data:=.fields #[.ref l,.int 0 0]}).get? s.heap.objs.size
       = some {cls:=.type "set",dict:=none,data:=.set #[] 0 (.fresh 0 0 led)} :=aj _ hS
     exact⟨_,#[],0,_,Gi,⟨rfl,rfl,rfl⟩,rfl,rfl,dh,WFT.fresh _ _ _⟩
    case hR=>
     intro s' xs hm hS' hM
     obtain⟨h',g',d',tk',os'⟩:=s'
     have eg:g'=s.gens:=hm.gens
     have ed:d'=s.drawn:=hm.drawn
     have eo:os'=s.os:=hm.os
     subst eg;subst ed;subst eo
     show wpAny _ _ _ _ _ _
     refine ao ?_
     show wpAny _ _ (ret Value.none) _ _ _
     rw[hsz]at hM
     refine ao ⟨rfl,h',tk',xs,rfl,hS',hM,λb o hb e=>?_⟩
     have hb1:b≠s.heap.objs.size:=aD hb
     have hb2:b≠(s.heap.push {cls:=.type "set",dict:=none,data:=.set #[] 0 (.fresh 0 0 led)}).objs.size:=by
      rw[cY];exact aD (ez hb)
     exact hm.heap b o (by simp only[ay,bL,aW,b9,not_or];exact⟨hb1,hb2⟩) (aj _ (aj _ e))
   ·cases r₂ with
    |error e=>exact hr₂
    |ok fl₂=>
     cases fl₂ with
     |ret r=>
      obtain⟨rfl,h',tk,xs,rfl,hS',hM,hk'⟩:=hr₂
      repeat (any_goals (first |assumption |wp_step))
      exact h _ _ _ hS' hM hk'
     |_=>exact hr₂.elim
  |_=>exact hr.elim
end
section
variable {X:Cx}
theorem BS (hu:X.A.units+4<cLine)(hc:X.calm=true):jY X (.type "set") (λxs H Q=>∃ (a:Addr) (ps:List (List Key×Addr)),xs = [.ref a]/\SqL X.K H a (ps.map λp=>V.ref p.2)/\tM X.K H ps/\ps.length<2000/\
  ∀ p ys,H p=none->Met ps ps.length ys->Q (.ref p) (upd H p (nQ X.prog X.w p ys))):=by
 intro pins s σ H xs us Q I r h
 obtain⟨a,ps,rfl,hx,ht,hb,q⟩:=h
 obtain⟨u,rfl,ru⟩:=vals1 r
 cases ru
 obtain⟨its,rv,p,hz⟩:=I.list hx
 have hits:its=ps.map λp=>Value.ref p.2:=by
  clear hx ht hb q p hz
  induction ps generalizing its with
  |nil=>rw[dQ]at rv;cases rv;rfl
  |cons x l ih=>
   rw[aN]at rv
   cases rv with
   |cons r1 r2=>cases r1;rw[ih _ r2];rfl
 refine wk hu (I.ok.hd hc) p.isList (ps:=ps) (by rw[bR];exact hits) (Inv.F5 I ht) hb λh' tk ys hS hM hk=>?_
 exact⟨.ref s.heap.objs.size,_,I.laid (t':=tk) (o:=nQ X.prog X.w s.heap.objs.size ys) (λb u e=>hk b u (ar e) e) (aw _) hS.obj,rfl,q _ ys I.fresh hM⟩
end
theorem Jr {A:Around}{k:Nat}(hr:kS k A):A.units+4<cLine:=bA (Nat.add_le_add_left (by decide:4<=64) _) hr.units
section
variable {X:Cx}{o e:Expr}{es:List Expr}{to:TE}{t:TA}{name:Str}{apos kQ:Pos}{id:String}{r:V->List V->Hp->VK->Prop}
noncomputable def LG (P:Program)(w:World)(r:V->List V->Hp->VK->Prop)(to:TE)(t:TA):TE:=λσ H Q=>to σ H λx H1=>(∃ p xs,x = .ref p/\H1 p=some (nQ P w p xs))/\t σ H1 λxs H2=>r x xs H2 Q
theorem IU (slot:Slot "set" name id)(hty:typeOf (.builtin id)=pure (.type "method_descriptor"))(hm:MtR X id r)(ho:PE X o to)(ha:PA X (e::es) t)
  (AQ:attributeBase o name X.env (eval o X.env)=eval o X.env:=by rfl)
  (Gj:((backTo kQ (starEach (e::es) X.env)).all (λx=> !x.1)&&(backToKw kQ (keywordEach [] X.env)).all (λx=>x.1.isSome)
   && decide ((e::es).length+([]:List Keyword).length+(if([]:List Keyword).isEmpty then 0 else 1)<30))=true:=by rfl)
  (AM:(apos.endLine==kQ.line)=true:=by rfl) (hs:starEach (e::es) X.env=(false,eval e X.env)::starEach es X.env:=by rfl) (v3:(backTo kQ (starEach es X.env)).any (·.1)=false:=by rfl):
  PE X (.Call (.Attribute o name apos) (e::es) [] kQ) (LG X.prog X.w r to t):=by
 intro pins s σ H Q I h
 refine wpAny_Call_method_late AQ Gj AM rfl (thn (ho pins s σ H _ I h) λv s1 ⟨x,H1,I1,r1,⟨p,xs,ex,hp⟩,q1⟩=>?_)
 subst ex
 cases r1
 have hS:=Inv.GW I1 hp
 refine⟨"set",id,PySem.F.plainAttrs_set,slot,hty,hS.typeIs,hS.noDict,?_⟩
 have hA:=ha kQ pins s1 σ H1 _ I1 q1
 rw[hs]at hA ⊢
 refine Calls.callWith_builtin (by show(false||(backTo kQ (starEach es X.env)).any (·.1))=false;rw[v3]<;>rfl) (Calls.evalArgs_plain ?_)
 exact thn hA λus s2 ⟨vs,H2,I2,r2,q2⟩=>hm pins s2 σ H2 (.ref p) vs (.ref p) us Q I2 rfl r2 q2
end
noncomputable def kP (p:Int×Int):List Key:=[.inl p.1,.inl p.2]
theorem F8 {p q:Int×Int}(h:kP p=kP q):p=q:=by
 obtain⟨a,b⟩:=p
 obtain⟨c,d⟩:=q
 simp only[kP,List.cons.injEq,Sum.inl.injEq,and_true]at h
 rw[h.1,h.2]
theorem vB {K:PySem.W.Frag}{H:Hp} :∀ {js:List (Int×Int)}{vs:List V},Das K H (js.map dP) vs->∃ ps:List (List Key×Addr),vs=ps.map (λp=>V.ref p.2)/\keysOf ps=js.map kP/\tM K H ps
 |[],vs,h=>⟨[],by rw[dQ]at h;rw[gA.mp h];rfl,rfl,λx hx=>(nomatch hx)⟩
 |j::js,vs,h=>by
  rw[aN]at h
  obtain⟨v,r,rfl,h1,h2⟩:=fO.mp h
  obtain⟨ps,e1,e2,e3⟩:=vB h2
  unfold dP at h1
  obtain⟨a,us,rfl,ht,q⟩:=gd.mp h1
  obtain⟨v1,r',rfl,q1,q⟩:=fO.mp q
  obtain⟨v2,r',rfl,q2,q⟩:=fO.mp q
  cases gA.mp q
  cases gj.mp q1
  cases gj.mp q2
  refine⟨(kP j,a)::ps,by rw[e1];rfl,by unfold keysOf at e2 ⊢;rw[aN,e2];rfl,λx hx=>?_⟩
  rcases ay.mp hx with rfl |hx
  ·exact ht
  ·exact e3 x hx
theorem Au {js:List (Int×Int)} :(js.map kP).Nodup↔js.Nodup:=by
 unfold List.Nodup
 rw[cw]
 exact⟨λh=>h.imp λn e=>n (by rw[e]),λh=>h.imp λn e=>n (F8 e)⟩
theorem Jg {js:List (Int×Int)}{p:Int×Int} :kP p∈js.map kP↔p∈js:=by
 rw[aA]
 exact⟨λ⟨q,h,e⟩=>F8 e ▸ h,λh=>⟨p,h,rfl⟩⟩
open HT
end TL
namespace TL
open PySem PySem.Spec PyProof.Rows L2
noncomputable def chS (c:Nat):Str:=⟨#[c]⟩
theorem gK (sep a b:Str)(r:List Str):Str.join sep (a::b::r)=a++sep++Str.join sep (b::r):=rfl
theorem join_one (sep a:Str):Str.join sep [a]=a:=rfl
theorem ij (a b:Str):(a++b).cps.toList=a.cps.toList++b.cps.toList:=by rw[Str.cps_append,Array.toList_append]
theorem oG {a b:Str}(h:a.cps.toList=b.cps.toList):a=b:=by rw[<-sW a,h,sW]
theorem wb {c:Nat} :∀ {a b x y:List Nat},c∉a->c∉b->a++c::x=b++c::y->a=b/\x=y
 |[],[],x,y,_,_,h=>⟨rfl,by injection h⟩
 |[],q::b,x,y,_,hb,h=>by
  injection h with h1 _
  exact absurd (by rw[h1];exact au) hb
 |p::a,[],x,y,ha,_,h=>by
  injection h with h1 _
  exact absurd (by rw[<-h1];exact au) ha
 |p::a,q::b,x,y,ha,hb,h=>by
  injection h with h1 h2
  obtain⟨e1,e2⟩:=wb (λz=>ha (aq _ z)) (λz=>hb (aq _ z)) h2
  exact⟨by rw[h1,e1],e2⟩
theorem yc {c:Nat} :∀ {ws vs:List Str},ws≠ []->vs≠ []->(∀ w∈ws,c∉w.cps.toList)->(∀ v∈vs,c∉v.cps.toList)->Str.join (chS c) ws=Str.join (chS c) vs->ws=vs
 |[],_,h,_,_,_,_=>absurd rfl h
 |_,[],_,h,_,_,_=>absurd rfl h
 |[w],[v],_,_,_,_,h=>by rw[join_one,join_one]at h;rw[h]
 |[w],v::v'::vs,_,_,hw,_,h=>by
  rw[join_one,gK]at h
  refine absurd ?_ (hw w au)
  rw[h,ij,ij]
  exact cR _ (aF _ (by show c∈ [c];simp))
 |w::w'::ws,[v],_,_,_,hv,h=>by
  rw[join_one,gK]at h
  refine absurd ?_ (hv v au)
  rw[<-h,ij,ij]
  exact cR _ (aF _ (by show c∈ [c];simp))
 |w::w'::ws,v::v'::vs,_,_,hw,hv,h=>by
  rw[gK,gK]at h
  have h2:(w++chS c++Str.join (chS c) (w'::ws)).cps.toList=(v++chS c++Str.join (chS c) (v'::vs)).cps.toList:=by rw[h]
  rw[ij,ij,ij,ij,cN,cN]at h2
  obtain⟨e1,e2⟩:=wb (hw w au) (hv v au) (show w.cps.toList++c::_=v.cps.toList++c::_ from h2)
  have:=yc (c:=c) (ws:=w'::ws) (vs:=v'::vs) (by simp) (by simp) (λx hx=>hw x (aq _ hx)) (λx hx=>hv x (aq _ hx)) (oG e2)
  rw[oG e1,this]
theorem kB (x:Str)(c:Nat):Txt.split x (chS c)≠ []:=by
 unfold Txt.split
 split
 ·simp
 ·split
  ·simp
  ·rw[PySem.StrLaws.partsBetween_eq]
   obtain⟨p,r,e⟩:=PySem.StrLaws.partsFrom_ne x (chS c).length 0 (Builtin.Str.occurrences x (chS c) 0 x.length (x.length+1))
   rw[e];simp
theorem oK {c:Nat}{ws:List Str}(h0:ws≠ [])(h:∀ w∈ws,c∉w.cps.toList):Txt.split (Str.join (chS c) ws) (chS c)=ws:=
 yc (kB _ c) h0 (PySem.StrLaws.split_free _ c) h (cy _ (chS c))
theorem join_snoc (sep w:Str):∀ {ws:List Str},ws≠ []->Str.join sep (ws ++ [w])=Str.join sep ws++sep++w
 |[],h=>absurd rfl h
 |[a],_=>rfl
 |a::b::r,_=>by
  show Str.join sep (a::b::(r ++ [w]))=_
  rw[gK,gK]
  have:=join_snoc sep w (ws:=b::r) (by simp)
  rw[show b::(r ++ [w])=(b::r) ++ [w] from rfl,this]
  simp only[Str.append_assoc]
noncomputable def hU (c:Nat):Bool:=decide (48<=c/\c<=57)
noncomputable def g9 (l:List Nat):Option Int:=
 if l = []\/40<l.length then none else if l.all hU=false then none else if l.head?=some 48/\l≠ [48]then none else some ((NumText.digitsVal l:Nat):Int)
noncomputable def gB (l:List Nat):Option Int:=(g9 l.dropLast).bind λn=>if l.getLast?=some 60 then some (2*n)else if l.getLast?=some 62 then some (2*n+1)else none
noncomputable def txN (n:Int):Str:=Str.ofString (toString n)
noncomputable def txE (e:Int):Str:=txN (e/2)++chS (if e%2=0 then 60 else 62)
theorem GN {n:Int}(h:0<=n):(txN n).cps.toList=(Nat.toDigits 10 n.toNat).map Char.toNat:=by
 have:=PySem.W.KIN.signs_num n.toNat
 rw[show((n.toNat:Nat):Int)=n by omega]at this
 exact this
theorem Em:∀ m,m<41->g9 ((Nat.toDigits 10 m).map Char.toNat)=some (m:Int)/\((Nat.toDigits 10 m).map Char.toNat).all hU=true/\((Nat.toDigits 10 m).map Char.toNat).length<=2:=by decide +kernel
theorem qZ {n:Int}(h0:0<=n)(h1:n<41):g9 (txN n).cps.toList=some n/\(txN n).cps.toList.all hU=true/\(txN n).length<=2:=by
 obtain⟨a,b,c⟩:=Em n.toNat (by omega)
 have e:=GN h0
 refine⟨by rw[e,a];congr 1;omega,by rw[e];exact b,?_⟩
 have:(txN n).length=(txN n).cps.toList.length:=by simp[Str.length]
 rw[this,e];exact c
theorem jj {e:Int}(h0:0<=e)(h1:e<82):gB (txE e).cps.toList=some e/\(∀ c∈(txE e).cps.toList,48<=c/\c<=62)/\(txE e).length<=3:=by
 obtain⟨a,b,c⟩:=qZ (n:=e/2) (by omega) (by omega)
 have ec:(txE e).cps.toList=(txN (e/2)).cps.toList ++ [if e%2=0 then 60 else 62]:=by unfold txE;rw[ij];rfl
 refine⟨?_,λd hd=>?_,?_⟩
 ·unfold gB
  rw[ec,List.dropLast_concat,a]
  show(if _ then _ else _)=_
  rw[List.getLast?_concat]
  by_cases z:e%2=0
  ·rw[av z,av rfl];congr 1;omega
  ·rw[ak z,ak (by decide),av rfl];congr 1;omega
 ·rw[ec]at hd
  rcases aL.mp hd with z |z
  ·have:=bY.mp b d z
   unfold hU at this
   have:=cc this
   omega
  ·have z:d=if e%2=0 then 60 else 62:=by simpa using z
   rw[z];split<;>omega
 ·unfold txE
  rw[ag]
  show _+1<=3
  omega
theorem mx {H H':Hp}(s:eW H H'){q:Addr}(h:H' q=none):H q=none:=by
 cases q0:H q with
 |none=>rfl
 |some o=>rw[s _ _ q0]at h;cases h
theorem vA {sep:Str} :∀ {ws:List Str}{x:Str},x∈ws->x.length<=(Str.join sep ws).length
 |[],_,h=>nomatch h
 |[a],x,h=>by
  have h:x=a:=by simpa using h
  rw[h];exact aw _
 |a::b::r,x,h=>by
  rw[gK,ag,ag]
  rcases ay.mp h with rfl |h
  ·omega
  ·have:=vA (sep:=sep) h
   omega
noncomputable def tot (ws:List Str):Nat:=(ws.map (·.length)).sum+ws.length
theorem oF (a b:List Str):tot (a++b)=tot a+tot b:=by unfold tot;simp;omega
theorem rF (x:Str)(b:List Str):tot (x::b)=x.length+1+tot b:=by unfold tot;simp;omega
theorem B3:tot []=0:=rfl
theorem EN (a:List Str)(i:Nat):tot (a.drop i)<=tot a:=by
 have:=oF (a.take i) (a.drop i);rw[cJ]at this;omega
theorem jK (a:List Str):a.length<=tot a:=by unfold tot;omega
theorem Gb (c:Nat)(ws:List Str):(Str.join (chS c) ws).length<=tot ws:=by
 have:=PySem.StrLaws.join_length_le (chS c) ws
 have e:(chS c).length=1:=rfl
 rw[e]at this
 unfold tot
 omega
theorem zO (c:Nat):∀ {ws:List Str},ws≠ []->tot ws=(Str.join (chS c) ws).length+1
 |[],h=>absurd rfl h
 |[a],_=>by rw[rF,TL.join_one];rfl
 |a::b::r,_=>by
  rw[rF,zO c (ws:=b::r) (by simp),gK,ag,ag]
  have e:(chS c).length=1:=rfl
  omega
theorem i9 (z:Str)(c:Nat):tot (Txt.split z (chS c))=z.length+1:=by
 rw[zO c (kB z c),cy]
theorem BJ {c:Nat}{ts:List Str}(h:tot ts<=1000000):JoinOk (chS c) ts=true:=by
 unfold JoinOk
 rw[PySem.StrLaws.joinTotal]
 have e:(chS c).length=1:=rfl
 rw[e]
 unfold tot at h
 unfold Builtin.Str.tooLong
 rw[aE]
 simp
 omega
section
variable {X:Cx}
theorem vP:MtR X "str.join" (λx vs H Q=>∃ c a ts,x = .str (chS c)/\vs = [.ref a]/\SqL X.K H a (ts.map V.str)/\tot ts<=1000000/\Q (.str (Str.join (chS c) ts)) H):=by
 intro pins s σ H x vs v us Q I rx rv h
 obtain⟨c,a,ts,rfl,rfl,ha,h1,q⟩:=h
 obtain⟨t,rfl⟩:=rx
 obtain⟨u,rfl,ru⟩:=rv.one
 cases ru
 obtain⟨its,r,p,hz⟩:=I.list ha
 obtain⟨l,rfl,e⟩:=Vals.strs r
 refine SC.join (texts:=ts) p.isList e (BJ h1) λt' k=>⟨.str _,H,I.tok _,⟨_,rfl⟩,?_⟩
 show Q (.str (Builtin.Str.glued (chS c) ts)) H
 rw[PySem.StrLaws.glued_eq_join]
 exact q
theorem Cj (x:Array Nat):∀ (n:Nat) (acc:Array Nat),((List.replicate n x).foldl (· ++ ·) acc).size=acc.size+n*x.size
 | 0,acc=>by simp
 |n+1,acc=>by
  rw[List.replicate_succ,List.foldl_cons,Cj x n,Array.size_append,Nat.succ_mul];omega
theorem yV:OpR X (binaryOp .Mult) (λx y H Q=>∃ (z:Str) (n:Int),x = .str z/\y = .int n/\z.length<=1000/\0<=n/\n<=1000/\∀ r:Str,r.length=z.length*n.toNat->Q (.str r) H):=by
 intro pins s σ H x y v u Q I rx ry h
 obtain⟨z,n,rfl,rfl,hz,n0,n1,q⟩:=h
 obtain⟨t,rfl⟩:=rx
 obtain⟨t',rfl⟩:=ry
 have hm:z.length*n.toNat<=1000*1000:=Nat.mul_le_mul hz (by omega)
 refine P.mul_str (by rw[bu (by omega),bu (by omega)];rfl) (λh1 _ h2=>?_) (λh1 _=>?_) ?_
 ·have h3:(z.length:Int)*n<=1000*1000:=Int.mul_le_mul (by omega) (by omega) (by omega) (by omega)
  have h4:(z.length:Int)<=(2 ^ 63-1)/n:=(Int.le_ediv_iff_mul_le (by omega)).mpr (by omega)
  omega
 ·unfold Builtin.Str.tooLong
  rw[aE]
  simp
  omega
 ·by_cases c1:n<1
  ·rw[av c1]
   refine⟨by decide,⟨.str Str.empty,H,I.tok _,⟨_,rfl⟩,q _ ?_⟩⟩
   rw[show n.toNat=0 by omega];rfl
  ·rw[ak c1]
   by_cases c2:(n==1||z.length==0)=true
   ·rw[av c2]
    refine⟨.str z,H,I,⟨_,rfl⟩,q _ ?_⟩
    rw[Bool.or_eq_true]at c2
    rcases c2 with c |c
    ·have:n=1:=by simpa using c
     rw[this];simp
    ·have:z.length=0:=by simpa using c
     rw[this];simp
   ·rw[ak c2]
    have hl:(⟨(List.replicate n.toNat z.cps).foldl (· ++ ·) #[]⟩:Str).length=z.length*n.toNat:=by
     show((List.replicate n.toNat z.cps).foldl (· ++ ·) #[]).size=z.cps.size*n.toNat
     rw[Cj];simp[Nat.mul_comm]
    refine⟨?_,⟨.str _,H,I.tok _,⟨_,rfl⟩,q _ hl⟩⟩
    rw[hl,aE];omega
noncomputable def MU:V->Option Int->Option Int->Hp->VK->Prop:=λx lo hi H Q=>∃ z,x = .str z/\z.length<=sizeLine/\∀ y:Str,y.length<=z.length->Q (.str y) H
theorem Cg:SlR X MU:=by
 intro pins s σ H x v vl vu lo hi sl Q I rx hs pl pu h
 obtain⟨z,rfl,hz,q⟩:=h
 obtain⟨t,rfl⟩:=rx
 refine⟨"str",_,slot_str_getitem.lookup,dE _ _ _,?_⟩
 cases pl with
 |none=>
  cases pu with
  |none=>exact cI (l:=none) (u:=none) (st:=none) hs rfl (eh ⟨aT (dc z _ _) hz,λt' k=>⟨.str _,H,I.tok _,⟨_,rfl⟩,q _ (dc z _ _)⟩⟩)
  |int j tj=>exact cI (l:=none) (u:=some (j,tj)) (st:=none) hs rfl (eh ⟨aT (dc z _ _) hz,λt' k=>⟨.str _,H,I.tok _,⟨_,rfl⟩,q _ (dc z _ _)⟩⟩)
 |int i ti=>
  cases pu with
  |none=>exact cI (l:=some (i,ti)) (u:=none) (st:=none) hs rfl (eh ⟨aT (dc z _ _) hz,λt' k=>⟨.str _,H,I.tok _,⟨_,rfl⟩,q _ (dc z _ _)⟩⟩)
  |int j tj=>exact cI (l:=some (i,ti)) (u:=some (j,tj)) (st:=none) hs rfl (eh ⟨aT (dc z _ _) hz,λt' k=>⟨.str _,H,I.tok _,⟨_,rfl⟩,q _ (dc z _ _)⟩⟩)
end
section
variable {X:Cx}{K:PySem.W.Frag}{T:String}{name:Str}{id:String}{r:V->List V->Hp->VK->Prop}{o e:Expr}{es:List Expr}{to:TE}{t:TA}{apos kQ:Pos}
theorem vF (e:X.K=K):OpR X (compareOp .In) (rIn K false):=by subst e;exact oh
theorem IT (eK:X.K=K)(pa:PlainAttrs T)(slot:Slot T name id)(hty:typeOf (.builtin id)=pure (.type "method_descriptor"))(hm:MtR X id r)(ho:PE X o to)(ha:PA X (e::es) t)
  (AQ:attributeBase o name X.env (eval o X.env)=eval o X.env:=by rfl)
  (Gj:((backTo kQ (starEach (e::es) X.env)).all (λx=> !x.1)&&(backToKw kQ (keywordEach [] X.env)).all (λx=>x.1.isSome)
   && decide ((e::es).length+([]:List Keyword).length+(if([]:List Keyword).isEmpty then 0 else 1)<30))=true:=by rfl)
  (AM:(apos.endLine==kQ.line)=true:=by rfl) (hs:starEach (e::es) X.env=(false,eval e X.env)::starEach es X.env:=by rfl) (v3:(backTo kQ (starEach es X.env)).any (·.1)=false:=by rfl):
  PE X (.Call (.Attribute o name apos) (e::es) [] kQ) (tBM K T r to t):=by
 subst eK
 exact jt pa slot hty hm ho ha AQ Gj AM hs v3
end
section
variable {K:PySem.W.Frag}{l:Addr}{g:TG}{tt:TT}{te:TE}{cap:List (Option Nat)}{σ:St}{Q:VK}{H1:Hp}{J:It}
theorem F0 {α:Type}(n:Nat)(rs:List (Option α))(d':α->PyData)(hn:H1 l=none)(hlen:n=rs.length)(hz:n<sizeLine)(go:∀ i H,eW H1 H->i<n->J.go i H)(st:∀ H,eW H1 H->J.stop n H)
  (hs:∀ i x r H H',eW H1 H->(∃ us,H l=some (.lst us))->J.yld i H x H'->rs[i]? = some r->∀ (P1:VK) (P0:Hp->Prop),(∀ d,r=some d->∀ v H2,eW H H2->Da K (hid l H2) (d' d) v->P1 v H2)->
   g x (ju cap σ) H' λσ2 H2=>tt σ2 H2 λb H3=>if b=true then te σ2 H3 P1 else P0 H3)
  (hq:∀ (ds:List α) vs H',rs=ds.map some->eW H1 H'->H' l=some (.lst vs)->Das K (hid l H') (ds.map d') vs->Q (.ref l) H'):LcW J g tt te cap σ Q l H1:=by
 refine BG n (λi acc H=>(∃ ds:List α,rs.take i=ds.map some/\Das K (hid l H) (ds.map d') acc)/\eW H1 H/\H l=some (.lst acc)) ⟨⟨[],rfl,gA.mpr rfl⟩,eN hn,eO⟩ (λi acc H hi ⟨_,s,_⟩=>go i H s hi) (λacc H ⟨_,s,_⟩=>st H s) ?_ ?_
 ·rintro i x acc H H' hi ⟨⟨ds,e0,e1⟩,s,hl⟩ y
  have hd:rs[i]? = some (rs[i]'(by omega)):=by simp
  generalize rs[i]'(by omega)=r at hd
  refine hs i x r H H' s ⟨_,hl⟩ y hd _ _ (λd er v H2 s2 dv=>?_)
  have la:=Dgs.length e1
  have lb:=bF List.length e0
  rw[aa]at la lb
  rw[aI]at lb
  refine⟨s2 _ _ hl,by omega,⟨ds ++ [d],?_,?_⟩,eW.upd (s.trans s2) hn,eO⟩
  ·rw[bx,hd,e0,aC,er];rfl
  ·rw[zp,aC]
   exact Dgs.append (Das.same (AN s2) e1) (Dgs.one dv)
 ·rintro acc H ⟨⟨ds,e0,e1⟩,s,hl⟩
  rw[bh (by omega)]at e0
  exact hq ds acc H e0 s hl e1
end
open PySem.W
noncomputable def ev {α:Type} :List α->List α
 |[]=>[]
 |[x]=>[x]
 |x::_::r=>x::ev r
end TL
namespace TL
open PySem PySem.Spec PyProof.Rows L2 TS
section
variable {X:Cx}{pins:List (Addr×Obj)}{σ:St}{H1:Hp}{s2:Shared}{scope:Scope}{N:List Str}{own:Nat}{cap:List (Option Nat)}{cl:List (Str×Addr)}{fp:List Addr}
 {tg iter elt vlt:Expr}{ifs:List Expr}{pos:Pos}{g:TG}{tt:TT}{te tv:TE}{wi:TI}
end
section
variable {X:Cx}{pins:List (Addr×Obj)}{σ:St}{H1:Hp}{s2:Shared}{scope:Scope}{N:List Str}{own:Nat}{cap:List (Option Nat)}{cl:List (Str×Addr)}{fp:List Addr}
 {tg iter elt vlt:Expr}{ifs:List Expr}{pos:Pos}{g:TG}{tt:TT}{te tv:TE}{wi:TI}
end
end TL
namespace TL
open PySem PySem.Spec PyProof.Rows L2
theorem gC {n:Nat}(h:n<=1000):n<sizeLine:=bA h (by decide)
variable {K:PySem.W.Frag}
theorem sy {H:Hp}{js:List (Int×Int)}{vs:List V}(h:Das K H (js.map dP) vs):vs.length=js.length:=by rw[Dgs.length h,aa]
variable {l:Int×List (Int×Int)}
theorem yn (h:gI l)(e:Int):(below l.2 e).length+(above l.2 e).length<=60:=h.inc e
theorem vT (h:gI l)(e:Int):(jn l.2 e).length<=60:=by
 unfold jn
 rw[oI,aG]
 exact h.inc e
theorem wc (h:gI l)(ns:List Int)(e:Int):(fr l ns e).length<=60:=aT (bD _ _) (vT h e)
theorem qT {α β:Type}(f:α->β)(l:List α)(i:Nat)(x:α)(h:l[i]? = some x):(l.take (i+1)).map f=(l.take i).map f ++ [f x]:=by
 rw[bx,h,aC];rfl
theorem qt:∀ (ds:List PyData),(∀ d∈ds,d.canLay0=true)->PyData.canLayAll0 ds=true
 |[],_=>by simp[PyData.canLayAll0]
 |d::ds,h=>by
  simp only[PyData.canLayAll0,bN]
  exact⟨h d au,qt ds λx hx=>h x (aq _ hx)⟩
theorem xD (l:Int×List (Int×Int))(ns:List Int):∀ m∈mvs l ns,PyData.strOk m.1.1=true:=λm hm=>by
 rcases aL.mp hm with z |z
 ·obtain⟨e,_,rfl⟩:=aA.mp z
  show PyData.strOk (Str.ofString "on")=true
  decide +kernel
 ·obtain⟨e,_,rfl⟩:=aA.mp z
  show PyData.strOk (Str.ofString "back")=true
  decide +kernel
noncomputable def dM (k:Str×Int):PyData:=.tuple [.str k.1,.int k.2]
theorem Cs {k:Str×Int}(h:PyData.strOk k.1=true):OkD (dM k):=by
 refine⟨?_,?_⟩
 ·simp only[dM,PyData.canLay0,PyData.canLayAll0,h,Bool.and_true]
 ·simp only[dM,PyData.depth,PyData.depthAll];decide
theorem Gw (a b:Str×Int):PyData.eqv (dM a) (dM b)=decide (a=b):=by
 obtain⟨a1,a2⟩:=a
 obtain⟨b1,b2⟩:=b
 simp only[dM,PyData.eqv,PyData.eqvAll,Bool.and_true]
 by_cases h:a1=b1<;>by_cases h':a2=b2<;>simp[h,h']
theorem HY {H H1:Hp}{p:Addr}{ms:List Mv}{vs:List V}{i:Nat}{y:V}(D:Dgs (Lf H H1 p) (SqT K H1) (ms.map dMv) vs)(hy:vs[i]? = some y):
  ∃ m ad p1 b,ms[i]? = some m/\y = .ref ad/\SqT K H1 ad [.ref p1,.ref b]/\Da K H1 (dM m.1) (.ref p1)/\H1 b=some (.lst (m.2.map V.int))/\H b=none/\b≠p:=by
 obtain⟨d,e1,hd⟩:=Dgs.get D hy
 rw[ah]at e1
 cases q:ms[i]? with
 |none=>rw[q]at e1;cases e1
 |some m=>
  rw[q]at e1
  cases e1
  unfold dMv at hd
  obtain⟨ad,us,rfl,ht,q⟩:=gd.mp hd
  obtain⟨v1,r,rfl,h1,q⟩:=fO.mp q
  obtain⟨v2,r,rfl,h2,q⟩:=fO.mp q
  cases gA.mp q
  have h1':Da K H1 (dM m.1) v1:=Dg.mono (λa us h=>SqL.of h.1) (λ_ _ h=>h) h1
  obtain⟨p1,_,rfl,_,_⟩:=gd.mp h1
  unfold dI at h2
  obtain⟨b,zs,rfl,⟨l1,l2,l3⟩,hz⟩:=iY.mp h2
  rw[mU.mp hz]at l1
  exact⟨m,ad,p1,b,rfl,rfl,ht,h1',l1,l2,l3⟩
noncomputable def fnd (ms:List Mv)(k:Str×Int):Option (List Int):=(ms.find? λm=>decide (m.1=k)).map (·.2)
theorem Hy {ms:List Mv}{k:Str×Int}{i:Nat}{m:Mv}(hi:ms[i]? = some m)(e:m.1=k)(no:∀ j,j<i->∀ n,ms[j]? = some n->n.1≠k):fnd ms k=some m.2:=by
 unfold fnd
 have:ms.find? (λm=>decide (m.1=k))=some m:=by
  rw[List.find?_eq_some_iff_getElem]
  obtain⟨hl,hg⟩:=af.mp hi
  refine⟨by simpa using e,i,hl,hg,λj hj=>?_⟩
  have:=no j hj _ (af.mpr ⟨by omega,rfl⟩)
  simpa using this
 rw[this];rfl
theorem Gq {ms:List Mv}{k:Str×Int}(no:∀ j,j<ms.length->∀ n,ms[j]? = some n->n.1≠k):fnd ms k=none:=by
 unfold fnd
 rw[Option.map_eq_none_iff,List.find?_eq_none]
 intro m hm
 obtain⟨j,hj,e⟩:=cQ.mp hm
 have:=no j hj m (af.mpr ⟨hj,e⟩)
 simpa using this
noncomputable def dR (run:List (Str×Int)):PyData:=.list (run.map dM)
theorem JK {H:Hp}{run:List (Str×Int)}{vs:List V}{i:Nat}{y:V}(h:Das K H (run.map dM) vs)(e:vs[i]? = some y):∃ k,run[i]? = some k/\Da K H (dM k) y:=by
 obtain⟨d,e1,hd⟩:=Dgs.get h e
 rw[ah]at e1
 cases q:run[i]? with
 |none=>rw[q]at e1;cases e1
 |some k=>rw[q]at e1;cases e1;exact⟨k,rfl,hd⟩
theorem Kx {run:List (Str×Int)}(h:∀ k∈run,PyData.strOk k.1=true):OkD (dR run):=by
 refine⟨?_,?_⟩
 ·simp only[dR,PyData.canLay0]
  refine qt _ λd hd=>?_
  obtain⟨m,hm,rfl⟩:=aA.mp hd
  exact(Cs (h m hm)).1
 ·simp only[dR,PyData.depth]
  have:=kL (f:=dM) (k:=1) (λm=>by simp[dM,PyData.depth,PyData.depthAll]) run
  omega
noncomputable abbrev Ma:=Mv×Addr×Addr
theorem Cv {l:Ln}(ok:gI l)(ns:List Int):(mvs l ns).length<=120:=by
 unfold mvs
 rw[aG,aa,aa]
 have h1:(TL.fr l ns (oth (ns.getLastD 0))).length<=60:=wc ok ns (oth (ns.getLastD 0))
 have h2:(TL.fr l ns (ns.headD 0)).length<=60:=wc ok ns (ns.headD 0)
 omega
theorem pQ.snoc {ns:List Int}{x:Int}(ok:gI l)(T:pQ l ns)(hne:ns≠ [])(hx:x∈fr l ns (oth (ns.getLastD 0))):pQ l (ns ++ [x]):=by
 obtain⟨h1,h2⟩:=bJ.mp hx
 have h2:¬x/2∈ns.map (· / 2):=by simpa using h2
 refine⟨λe he=>?_,?_,λi a b ha hb=>?_⟩
 ·rcases aL.mp he with z |z
  ·exact T.ends e z
  ·have z:e=x:=by simpa using z
   rw[z];exact vU ok h1
 ·rw[aC,cM]
  refine⟨T.nd,by simp,λa ha b hb=>?_⟩
  have hb:b=x/2:=by simpa using hb
  intro z
  exact h2 (by rw[<-hb,<-z];exact ha)
 ·by_cases hi:i+1<ns.length
  ·rw[bf hi]at hb
   rw[bf (by omega)]at ha
   exact T.ch i a b ha hb
  ·have hlt:i+1<(ns ++ [x]).length:=(af.mp hb).1
   rw[aG,List.length_singleton]at hlt
   have e1:i+1=ns.length:=by omega
   rw[e1,bq (aw _),dG]at hb
   cases hb
   rw[bf (by omega)]at ha
   have e2:ns.getLastD 0=a:=by
    rw[ej,List.getLast?_eq_getElem?]
    have:ns.length-1=i:=by omega
    rw[this,ha];rfl
   rw[e2]at h1
   exact h1
theorem Lg {H:Hp}{k:Str×Int}{v:V}(h:Da K H (dM k) v):∃ a,v = .ref a/\SqT K H a [.str k.1,.int k.2]:=by
 unfold dM at h
 obtain⟨a,vs,rfl,ht,q⟩:=gd.mp h
 obtain⟨v1,r,rfl,h1,q⟩:=fO.mp q
 obtain⟨v2,r,rfl,h2,q⟩:=fO.mp q
 cases gA.mp q
 cases nN.mp h1
 cases gj.mp h2
 exact⟨a,rfl,ht⟩
noncomputable abbrev Xi (cs:List Ma):List Mv:=cs.map (·.1)
theorem Gd {js:List (Int×Int)}(h:∀ p∈js,p.1≠p.2)(e:Int):srt ((js.filter λp=>decide (p.1=e\/p.2=e)).map λp=>p.1+p.2-e)=jn js e:=by
 refine DA ?_
 induction js with
 |nil=>exact .refl _
 |cons p r ih=>
  have ih:=ih λq hq=>h q (aq _ hq)
  have hp:=h p au
  unfold below above at ih ⊢
  by_cases h1:p.1=e
  ·have h2:¬p.2=e:=λz=>hp (h1.trans z.symm)
   rw[de (by simp[h1]),cC (by simp[h2]),de (by simp[h1]),aN,aN]
   rw[show p.1+p.2-e=p.2 by omega]
   exact(List.Perm.cons _ ih).trans dq.symm
  ·by_cases h2:p.2=e
   ·rw[de (by simp[h2]),de (by simp[h2]),cC (by simp[h1]),aN,aN,List.cons_append]
    rw[show p.1+p.2-e=p.1 by omega]
    exact List.Perm.cons _ ih
   ·rw[cC (by simp[h1,h2]),cC (by simp[h2]),cC (by simp[h1])]
    exact ih
theorem gb.BF {l:Ln}(h:gb l)(hl:l.2.length<=30):gI l:=by
 obtain⟨h1,h2,h3,h4,h5⟩:=h
 refine⟨h1,h2,h3,λe=>by have:=inc_le l.2 e;omega,λp hp=>?_⟩
 obtain⟨a,b,c,_⟩:=h4 p hp
 exact⟨a.1,c,b.2⟩
theorem gb.ne {l:Ln}(h:gb l):∀ p∈l.2,p.1≠p.2:=λp hp z=>by
 obtain⟨_,_,_,d⟩:=h.2.2.2.1 p hp
 rw[z]at d
 exact d rfl
theorem xV {l:Ln}(ok:gI l){ns:List Int}{m:Mv}(hm:m∈mvs l ns):(m.1.1=Str.ofString "on" \/m.1.1=Str.ofString "back")/\0<=m.1.2/\m.1.2<2*l.1:=by
 rcases aL.mp hm with z |z
 ·obtain⟨e,he,h⟩:=aA.mp z
  rw[<-h]
  exact⟨.inl rfl,vU ok (zt he).1⟩
 ·obtain⟨e,he,h⟩:=aA.mp z
  rw[<-h]
  exact⟨.inr rfl,vU ok (zt he).1⟩
theorem mE {x:Str}(h:x=Str.ofString "on" \/x=Str.ofString "back"):PyData.strOk x=true:=by
 rcases h with rfl |rfl<;>decide +kernel
noncomputable abbrev SK:=List Key×Key
noncomputable abbrev KvN:=List (SK×Addr×V)
noncomputable abbrev PN:KvN->List (SK×Addr×Value)->Prop:=Paired λp q=>p.1=q.1/\p.2.1=q.2.1/\RelV p.2.2 q.2.2
open TS
section
variable {X:Cx}{pins:List (Addr×Obj)}{σ:St}{H1:Hp}{s2:Shared}{scope:Scope}{N:List Str}{own:Nat}{cap:List (Option Nat)}{cl:List (Str×Addr)}{fp:List Addr}
 {tg iter elt vlt:Expr}{ifs:List Expr}{pos:Pos}{g:TG}{tt:TT}{te tv:TE}{wi:TI}
end
end TL
namespace L2
open PySem PySem.Spec PySem.Calls PyProof.Rows PySem.W
end L2
namespace TL
open PySem PySem.Spec PyProof.Rows L2 TS
noncomputable abbrev Rows:=List (List Int×Int)
theorem Dw {l:Ln}{ns:List Int}(ok:gI l)(T:pQ l ns):pQ l (ns.reverse.map oth):=by
 refine⟨λe he=>?_,?_,λi x y hx hy=>?_⟩
 ·obtain⟨z,hz,rfl⟩:=aA.mp he
  have:=T.ends z (List.mem_reverse.mp hz)
  unfold oth;omega
 ·rw[aY,show((λx:Int=>x/2) ∘ oth)=(λx:Int=>x/2) from funext λe=>by show oth e/2=e/2;unfold oth;omega,List.map_reverse]
  exact(List.reverse_perm _).nodup_iff.mpr T.nd
 ·rw[ah]at hx hy
  have hi:i+1<ns.length:=by
   by_cases z:i+1<ns.length
   ·exact z
   ·rw[List.getElem?_eq_none (by rw[dD];omega)]at hy;cases hy
  rw[List.getElem?_reverse (by omega)]at hx
  rw[List.getElem?_reverse (by omega)]at hy
  cases q1:ns[ns.length-1-i]? with
  |none=>rw[q1]at hx;cases hx
  |some a=>
   cases q2:ns[ns.length-1-(i+1)]? with
   |none=>rw[q2]at hy;cases hy
   |some b=>
    rw[q1]at hx;rw[q2]at hy
    cases hx;cases hy
    have:=T.ch (ns.length-1-(i+1)) b a q2 (by rw[show ns.length-1-(i+1)+1=ns.length-1-i by omega];exact q1)
    rw[Cq]
    exact CH ok this
end TL
namespace TL
open PySem PySem.Spec PyProof.Rows L2
open TS
end TL
namespace TL
open PySem PySem.Spec PyProof.Rows L2
open TS
noncomputable abbrev Xw (d p:Addr)(H:Hp):Hp:=hid p (hid d H)
variable {H:Hp}
theorem J7 {σ:L2.St}{te:TE}{P1:VK}{P0:Hp->Prop}(h:te σ H P1):ER σ H (λb H3=>if b=true then te σ H3 P1 else P0 H3):=ib (A:=te σ H P1) (B:=P0 H) h
open Classical in
noncomputable def ip (p:Addr->Prop) (H:Hp):Hp:=λb=>if p b then none else H b
variable {p:Addr->Prop}
theorem iX {b:Addr}(h:¬p b):ip p H b=H b:=by unfold ip;rw[ak h]
theorem sr {b:Addr}(h:p b):ip p H b=none:=by unfold ip;rw[av h]
theorem fZ:eW (ip p H) H:=λb u h=>by
 by_cases z:p b
 ·rw[sr z]at h;cases h
 ·rw[iX z]at h;exact h
theorem h8 {H':Hp}(s:eW H H'):eW (ip p H) (ip p H'):=λb u h=>by
 by_cases z:p b
 ·rw[sr z]at h;cases h
 ·rw[iX z]at h ⊢;exact s _ _ h
theorem kK {a:Addr}{o:HO}(h:p a):ip p (upd H a o)=ip p H:=by
 funext b
 by_cases z:p b
 ·rw[sr z,sr z]
 ·rw[iX z,iX z,fw λe=>z (by rw[e];exact h)]
end TL
namespace TL
open PySem PySem.Spec PyProof.Rows L2
open TS
end TL
namespace TL
open PySem PySem.Spec PyProof.Rows L2
noncomputable abbrev Sta:=List Int×Str
noncomputable abbrev Bk:=Option (Sta×Option (Str×Int))
noncomputable abbrev EnS:=Sta×Bk
section
variable {X:Cx}
theorem se:MtR X "str.partition" (λx vs H Q=>∃ z y,x = .str z/\vs = [.str y]/\1<=y.length/\z.length<=100000/\∀ p,H p=none->Q (.ref p) (upd H p (.tup [.str (Txt.partition z y).1,.str (Txt.partition z y).2.1,.str (Txt.partition z y).2.2]))):=by
 intro pins s σ H x vs v us Q I rx rv h
 obtain⟨z,y,rfl,rfl,hy,hz,q⟩:=h
 obtain⟨t,rfl⟩:=rx
 obtain⟨u,rfl,ru⟩:=rv.one
 obtain⟨tu,rfl⟩:=ru
 have hy0:(y.length==0)=false:=by simp;omega
 have hx:z.length<=sizeLine:=by rw[aE];omega
 refine dF dX (dE _ _ _) PySem.F.entry_str_partition (PySem.F.args_str_partition_2 _ _) (meets_str_partition z y t tu hy0 hx) ?_
 have q:=q _ I.fresh
 unfold Txt.partition at q
 revert q
 cases Builtin.Str.occurrences z y 0 z.length 1 with
 |nil=>intro q;exact⟨.ref _,_,I.laid (t':=_) (o:=.tup [.str _,.str _,.str _]) (λb ob e=>aj _ e) (aw _) ⟨by show 3<=sizeLine;decide,_,.cons ⟨_,rfl⟩ (.cons ⟨_,rfl⟩ (.cons ⟨_,rfl⟩ .nil)),⟨_,aM _ rfl,rfl,_,rfl⟩⟩,rfl,q⟩
 |cons i r=>intro q;exact⟨.ref _,_,I.laid (t':=_) (o:=.tup [.str _,.str _,.str _]) (λb ob e=>aj _ e) (aw _) ⟨by show 3<=sizeLine;decide,_,.cons ⟨_,rfl⟩ (.cons ⟨_,rfl⟩ (.cons ⟨_,rfl⟩ .nil)),⟨_,aM _ rfl,rfl,_,rfl⟩⟩,rfl,q⟩
end
theorem BV (z:Str)(c k:Nat):PySem.StrLaws.At z (chS c) z.length k↔z.cps.toList[k]? = some c:=by
 have e1:(chS c).length=1:=rfl
 have e2:(chS c).cps.toList = [c]:=rfl
 unfold PySem.StrLaws.At
 rw[PySem.StrLaws.subAt_eq,e1,e2]
 have hz:z.length=z.cps.toList.length:=by simp[Str.length]
 rw[hz]
 constructor
 ·rintro⟨h1,h2⟩
  have h2:(z.cps.toList.drop k).take 1 = [c]:=eq_of_beq h2
  have h3:(z.cps.toList.drop k)[0]? = some c:=by
   have:((z.cps.toList.drop k).take 1)[0]? = some c:=by rw[h2];rfl
   rwa [cA (by decide)]at this
  simpa using h3
 ·intro h
  obtain⟨hk,e⟩:=af.mp h
  refine⟨hk,?_⟩
  rw[el hk,e]
  simp
theorem FD {c:Nat}{w r:Str}(h:c∉w.cps.toList):Txt.partition (w++chS c++r) (chS c)=(w,chS c,r):=by
 have hl:(w++chS c++r).cps.toList=w.cps.toList++c::r.cps.toList:=by rw[ij,ij,cN];rfl
 have hat:PySem.StrLaws.At (w++chS c++r) (chS c) (w++chS c++r).length w.cps.toList.length:=by
  rw[BV,hl,bq (aw _),dG];rfl
 have hs:=PySem.StrLaws.partition_sum (w++chS c++r) (chS c)
 have hb:(Txt.partition (w++chS c++r) (chS c)).2.1=chS c/\c∉(Txt.partition (w++chS c++r) (chS c)).1.cps.toList:=by
  rcases PySem.StrLaws.occ_head (w++chS c++r) (chS c) 1 (aw _)with⟨_,z⟩|⟨i,t,e,ha,hn⟩
  ·exact absurd hat (z _)
  ·unfold Txt.partition
   rw[e]
   refine⟨rfl,λz=>?_⟩
   have z:c∈(Builtin.Str.strSub (w++chS c++r) 0 i).cps.toList:=z
   rw[PySem.StrLaws.strSub_toList]at z
   obtain⟨k,hk⟩:=cK.mp z
   have hk':k<i:=by
    have:=(af.mp hk).1
    rw[aI]at this
    omega
   refine hn k hk' ((BV _ _ _).mpr ?_)
   rw[cA (by omega)]at hk
   simpa using hk
 generalize Txt.partition (w++chS c++r) (chS c)=q at hs hb
 obtain⟨a,b,d⟩:=q
 obtain⟨rfl,hb⟩:=hb
 have hs:(a++chS c++d).cps.toList=(w++chS c++r).cps.toList:=by rw[hs]
 rw[hl,ij,ij,cN]at hs
 obtain⟨e1,e2⟩:=wb hb h (show a.cps.toList++c::d.cps.toList=w.cps.toList++c::r.cps.toList from hs)
 have e1:a=w:=oG e1
 rw[e1,oG e2]
theorem Hc {c:Nat}{w:Str}(h:c∉w.cps.toList):Txt.partition w (chS c)=(w,Str.empty,Str.empty):=by
 rcases PySem.StrLaws.occ_head w (chS c) 1 (aw _)with⟨e,_⟩|⟨i,t,e,ha,_⟩
 ·unfold Txt.partition;rw[e]
 ·exact absurd (aB ((BV _ _ _).mp ha)) h
structure BX (P:Program)(w:World)(K:PySem.W.Frag)(mg:Str->Option Value)(x:Str)(od:Addr)(kvs:List (Str×Addr)):Prop where
 m:mg x=some (.ref od)
 d:∀ h:Heap,K.In h->h.DictOf (gq P w) od (kvs.map λp=>((.inr p.1:Key),Value.ref p.2))
variable {K:PySem.W.Frag}
theorem kd_in {P:Program}{w:World}{mg:Str->Option Value}{x:Str}{od:Addr}{kvs:List (Str×Addr×Tok)}{ep:Nat}(hm:mg x=some (.ref od))
  (hk:K.lookup od=some {cls:=.type "dict",data:=.dict (kvs.map λp=>⟨PyData.keyHash w.params p.1,.str p.1 p.2.2,.ref p.2.1⟩).toArray ep}) (nd:(kvs.map (·.1)).Nodup):BX P w K mg x od (kvs.map λp=>(p.1,p.2.1)):=by
 refine⟨hm,λh hK=>⟨_,_,ep,hK od _ hk,⟨rfl,rfl,rfl⟩,rfl,?_,?_,?_⟩⟩
 ·intro e he
  have he:e∈kvs.map λp=>(⟨PyData.keyHash w.params p.1,.str p.1 p.2.2,.ref p.2.1⟩:DictEntry):=by simpa using he
  obtain⟨p,_,rfl⟩:=aA.mp he
  exact⟨.inr p.1,AK (P:=P) (w:=w) (k:=.inr p.1) ⟨p.2.2,rfl⟩,rfl⟩
 ·have:∀ l:List (Str×Addr×Tok),Pairs (gq P w) (l.map λp=>(⟨PyData.keyHash w.params p.1,.str p.1 p.2.2,.ref p.2.1⟩:DictEntry)) ((l.map λp=>(p.1,p.2.1)).map λp=>((.inr p.1:Key),Value.ref p.2)):=λl=>by
   induction l with
   |nil=>exact .nil
   |cons p l ih=>exact .cons (AK (P:=P) (w:=w) (k:=.inr p.1) ⟨p.2.2,rfl⟩) rfl ih
  simpa using this kvs
 ·rw[aY,aY]
  show(kvs.map λp=>(Sum.inr p.1:Key)).Nodup
  have e:(kvs.map λp=>(Sum.inr p.1:Key))=(kvs.map (·.1)).map Sum.inr:=by rw[aY];rfl
  rw[e]
  exact cw.mpr (nd.imp λh z=>h (by injection z))
noncomputable def jo (kvs:List (Str×Addr))(k:Str):Option Addr:=(kvs.find? λp=>decide (p.1=k)).map (·.2)
theorem F6 (kvs:List (Str×Addr))(k:Str):valueAt (kvs.map λp=>((.inr p.1:Key),Value.ref p.2)) (.inr k)=(jo kvs k).map Value.ref:=by
 unfold valueAt jo
 induction kvs with
 |nil=>rfl
 |cons p r ih=>
  by_cases h:p.1=k
  ·simp[h]
  ·rw[aN,List.find?_cons_of_neg (by simpa using h),List.find?_cons_of_neg (by simpa using h)]
   exact ih
variable {X:Cx}{i:Expr}{p pos:Pos}{ty:TE}{od:Addr}{x:Str}{kvs:List (Str×Addr)}
noncomputable def tKd (kvs:List (Str×Addr))(ty:TE):TE:=λσ H Q=>ty σ H λy H1=>∃ k f,y = .str k/\jo kvs k=some f/\Q (.ref f) H1
theorem HS (O:BX X.prog X.w X.K X.mg x od kvs)(hg:Gl X x)(hi:PE X i ty)(hs:Lp i)(hd:(x==("__debug__" :Str))=false:=by decide):PE X (.Subscript (.Name x p) i pos) (tKd kvs ty):=by
 intro pins s σ H Q I h
 have ho:PE X (.Name x p) (tC (.ref od)):=jJ hg O.m rfl hd
 refine GS PySem.F.slot_dict_getitem.lookup hs (thn (ho pins s σ H _ I (show tC (.ref od) σ H (λx H1=>x = .ref od/\H1=H) from⟨rfl,rfl⟩)) λu s1 ⟨x,H1,I1,rx,ex,eH⟩=>?_)
 subst ex eH
 obtain rfl:u=Value.ref od:=rx
 refine thn (hi pins s1 σ H1 _ I1 h) λiv s2 ⟨y,H2,I2,ry,k,f,ey,hm,q⟩=>?_
 subst ey
 have dd:=O.d s2.heap I2.kIn
 have hT:s2.TypeIs (.ref od) "dict" :=by
  obtain⟨o,es,ep,h1,h2,_⟩:=dd
  exact⟨o,h1,h2.1⟩
 refine⟨hT,?_⟩
 refine wpAny_getItem_of (k:=.inr k) (AK (P:=X.prog) (w:=X.w) (k:=.inr k) ry) dd.mapOf (v:=.ref f) (by rw[F6,hm];rfl) ⟨.ref f,H2,I2.tok _,rfl,q⟩
noncomputable def Kg (kvs:List (Str×Addr))(ty:TE):TE:=λσ H Q=>ty σ H λy H1=>∃ k,y = .str k/\Q (.bl (jo kvs k).isSome) H1
theorem Co (O:BX X.prog X.w X.K X.mg x od kvs)(hs:(od==sysModules)=false)(hg:Gl X x)(hi:PE X i ty)(hd:(x==("__debug__" :Str))=false:=by decide):PC X .In i (.Name x p) (Kg kvs ty):=by
 intro pins s σ H Q I h
 have ho:PE X (.Name x p) (tC (.ref od)):=jJ hg O.m rfl hd
 refine thn (hi pins s σ H _ I h) λiv s1 ⟨y,H1,I1,ry,k,ey,q⟩=>?_
 subst ey
 refine thn (ho pins s1 σ H1 _ I1 (show tC (.ref od) σ H1 (λx H2=>x = .ref od/\H2=H1) from⟨rfl,rfl⟩)) λu s2 ⟨x,H2,I2,rx,ex,eH⟩=>?_
 subst ex eH
 obtain rfl:u=Value.ref od:=rx
 have dd:=O.d s2.heap I2.kIn
 refine wpAny_in_of (AK (P:=X.prog) (w:=X.w) (k:=.inr k) ry) hs dd.mapOf ?_
 rw[F6,Option.isSome_map]
 exact⟨.bl _,H2,I2.tok _,rfl,q⟩
variable {CX:CXT}{k:Nat}{E:XK}{e:Expr}{es:List Expr}{t:TA}
noncomputable def FnV (P:Program)(w:World)(K:PySem.W.Frag)(mg:Str->Option Value)(base:Heap)(CX:CXT)(k:Nat)(f:Addr)(sp:Sp):Prop:=∃ fd ps,eX P w K mg base CX k f fd ps sp/\PySem.W.keepIn K (.ref f)=true/\Binds K fd ps []
noncomputable def IE (P:Program)(w:World)(K:PySem.W.Frag)(mg:Str->Option Value)(base:Heap)(CX:CXT)(k:Nat)(E:XK)(j:Nat)(t:TA):TE:=λσ H Q=>∃ f sp,σ[j]? = some (some (.ref f))/\FnV P w K mg base CX k f sp/\t σ H λvs H1=>sp vs H1 Q E
theorem Ag (j:Nat)(hN:X.N[j]? = some x)(hv:Vis X.env.scope x)(hr:kS k X.A)(hx:Passes CX X E)(ha:PA X (e::es) t)
  (hdb:(x==("__debug__" :Str))=false:=by decide) (hcd:(x==("__classdict__" :Str))=false:=by decide) (he:starEach (e::es) X.env=(false,eval e X.env)::starEach es X.env:=by rfl) (hpl:(backTo pos (starEach es X.env)).any (·.1)=false:=by rfl):
  PE X (.Call (.Name x p) (e::es) [] pos) (IE X.prog X.w X.K X.mg X.base CX k E j t):=by
 intro pins s σ H Q I h
 obtain⟨f,sp,hσ,⟨fd,ps,F,hk,hb⟩,h⟩:=h
 have ho:PE X (.Name x p) (Dz j):=Fw hN hv hdb hcd
 refine cO ?_
 refine thn (ho pins s σ H (λx H1=>x = .ref f/\H1=H) I ⟨_,hσ,rfl,rfl⟩) λu s1 ⟨x,H1,I1,rx,ex,eH⟩=>?_
 subst ex eH
 obtain rfl:u=Value.ref f:=rx
 refine dW (h₀:=X.base) I1.ok.mod.kin hk (thn (ha pos pins s1 σ H1 _ I1 h) λus s2 ⟨vs,H2,I2,r,q⟩=>⟨I2.kIn,?_⟩) he hpl
 exact Br (ds:=[]) (dvs:=[]) F hr hb .nil hx I2 r (by rw[bS];exact q)
section
variable {X:Cx}
theorem Eu (hc:X.calm=true):jY X (.builtin "min") (λxs H Q=>∃ (a:Addr) (ns:List Int),xs = [.ref a]/\SqL X.K H a (ns.map V.int)/\ns≠ []/\∀ m,m∈ns->(∀ x∈ns,m<=x)->Q (.int m) H):=by
 intro pins s σ H xs us Q I r h
 obtain⟨a,ns,rfl,hx,hne,q⟩:=h
 obtain⟨u,rfl,ru⟩:=vals1 r
 cases ru
 obtain⟨its,rv,p,hz⟩:=I.list hx
 have hi:IntsAre its ns:=intsAre_of rv
 obtain⟨xs,hx⟩:=hi.allInts.items
 have hl':s.heap.IsList a (intItems xs):=hx ▸ p.isList
 have e1:ns=xs.toList.map (·.1):=by
  rw[<-nums_intItems,<-hx]
  exact(show numsOf its.toArray.toList=ns from hi.numsOf).symm
 have hsz:0<xs.size:=by
  cases ns with
  |nil=>exact absurd rfl hne
  |cons y r=>have:=bF List.length e1;simp at this;omega
 refine min_intList (I.ok.hd hc) hl' hsz λv h' tk hv hk=>?_
 obtain⟨t,rfl⟩:=intItems_at hv
 obtain⟨h1,h2⟩:=argBest_lt (numAt xs) (xs.size-1)
 refine⟨.int _,H,I.kept (t':=tk) hk,⟨_,rfl⟩,q _ ?_ λy hy=>?_⟩
 ·rw[e1,numAt_eq];exact getD_mem (by rw[aa,aK];omega)
 ·rw[e1]at hy
  obtain⟨j,hj,rfl⟩:=mem_getD hy
  rw[aa,aK]at hj
  rw[<-numAt_eq];exact h2 j (by omega)
theorem Ex (hc:X.calm=true):jY X (.builtin "max") (λxs H Q=>∃ (a:Addr) (ns:List Int),xs = [.ref a]/\SqL X.K H a (ns.map V.int)/\ns≠ []/\∀ m,m∈ns->(∀ x∈ns,x<=m)->Q (.int m) H):=by
 intro pins s σ H xs us Q I r h
 obtain⟨a,ns,rfl,hx,hne,q⟩:=h
 obtain⟨u,rfl,ru⟩:=vals1 r
 cases ru
 obtain⟨its,rv,p,hz⟩:=I.list hx
 have hi:IntsAre its ns:=intsAre_of rv
 obtain⟨xs,hx⟩:=hi.allInts.items
 have hl':s.heap.IsList a (intItems xs):=hx ▸ p.isList
 have e1:ns=xs.toList.map (·.1):=by
  rw[<-nums_intItems,<-hx]
  exact(show numsOf its.toArray.toList=ns from hi.numsOf).symm
 have hsz:0<xs.size:=by
  cases ns with
  |nil=>exact absurd rfl hne
  |cons y r=>have:=bF List.length e1;simp at this;omega
 refine max_intList (I.ok.hd hc) hl' hsz λv h' tk hv hk=>?_
 obtain⟨t,rfl⟩:=intItems_at hv
 obtain⟨h1,h2⟩:=argBest_gt (numAt xs) (xs.size-1)
 refine⟨.int _,H,I.kept (t':=tk) hk,⟨_,rfl⟩,q _ ?_ λy hy=>?_⟩
 ·rw[e1,numAt_eq];exact getD_mem (by rw[aa,aK];omega)
 ·rw[e1]at hy
  obtain⟨j,hj,rfl⟩:=mem_getD hy
  rw[aa,aK]at hj
  rw[<-numAt_eq];exact h2 j (by omega)
end
section
variable {X:Cx}{CX:CXT}{k:Nat}{f C:Addr}{fd:FuncData}{ps:List Str}{sp:Sp}{E:L2.St->XK}{x m:Str}{p pos apos:Pos}{e o:Expr}{es:List Expr}{t:TA}{ta:TE}
noncomputable def IC (C:Addr)(m:Str)(sp:Sp)(E:L2.St->XK)(ta:TE)(t:TA):TE:=λσ H Q=>ta σ H λx H1=>∃ a dx fs,x = .ref a/\H1 a=some (.ins C dx fs)/\fs.lookup m=none/\t σ H1 λvs H2=>sp (x::vs) H2 Q (E σ)
theorem Fx {pl:Sem Bool}(he:PE X o ta)(c:Cls X.K C)(hm:Meth X.K C m f)(F:eX X.prog X.w X.K X.mg X.base CX k f fd ps sp)(hr:kS k X.A)(hb:Binds X.K fd ps [])(hx:Dh CX X E)(ha:PA X (e::es) t)
  (hst:starEach (e::es) X.env=(false,eval e X.env)::starEach es X.env:=by rfl) (hpl:(backTo pos (starEach es X.env)).any (·.1)=false:=by rfl)
  (ht:eval (.Call (.Attribute o m apos) (e::es) [] pos) X.env=(do
   let ov <-eval o X.env
   standAt apos.atName
   let (f,first) <-holding [ov] (getMethod ov m pl)
   callWith pos f first (backTo pos (starEach (e::es) X.env)) (backToKw pos (keywordEach [] X.env))):=by rfl):
  PE X (.Call (.Attribute o m apos) (e::es) [] pos) (IC C m sp E ta t):=by
 intro pins s σ H Q I h
 refine PySem.W.methodCall_KW (pl:=pl) (thn (he pins s σ H _ I h) λu s1 ⟨x,H1,I1,rx,a,dx,fs,ex,ea,l,q⟩=>?_) ht
 subst ex
 obtain rfl:u=Value.ref a:=rx
 refine wa I1 ea c hm l ?_
 refine dW (first:=[.ref a]) (h₀:=X.base) I.ok.mod.kin hm.kp (thn (ha pos pins s1 σ H1 _ I1 q) λus s2 ⟨vs,H2,I2,r,q2⟩=>⟨I2.kIn,?_⟩) hst hpl
 have r2:Vals (.ref a::vs) (.ref a::us):=.cons rfl r
 have hl:((.ref a::us:List Value) ++ []).length=ps.length:=by rw[bS,<-r2.length];exact F.len _ _ _ _ q2
 refine wpAny_call (cZ (F.run X.A X.stack s2 H2 ⟨.ref a::us,[]⟩ ((.ref a::us) ++ []) (.ref a::vs) Q (E σ) hr I2.JJ (hb s2 (.ref a::us) I2.kIn hl) (by rw[bS];exact r2) q2) λr s' hq=>?_)
 cases r with
 |error e=>exact hx pins σ H2 s2 e s' I2 hq
 |ok fl=>
  cases fl with
  |ret u=>exact I2.after hq
  |next=>exact False.elim hq
  |brk=>exact False.elim hq
  |cont=>exact False.elim hq
end
noncomputable def LI (o:Option HO):Prop:=(∃ C dx fs,o=some (.ins C dx fs))\/∃ xs,o=some (.lst xs)
variable {p:Addr->Prop}{H:Hp}
theorem B5 {a:Addr}{xs:List V}(hp:∀ a,p a->LI (H a))(h:SqT K H a xs):SqT K (ip p H) a xs:=by
 rcases h with(h |⟨o,h⟩)|h
 ·refine .inl (.inl ?_)
  rw[iX];exact h
  intro z
  rcases hp a z with⟨_,_,_,e⟩|⟨_,e⟩<;>rw[h]at e<;>cases e
 ·refine .inl (.inr ⟨o,?_⟩)
  rw[iX];exact h
  intro z
  rcases hp a z with⟨_,_,_,e⟩|⟨_,e⟩<;>rw[h]at e<;>cases e
 ·exact .inr h
theorem IL (hp:∀ a,p a->LI (H a)){js:List (Int×Int)}{vs:List V}(h:Ps K H js vs):Ps K (ip p H) js vs:=Dgs.mono (λ_ _ h=>h) (λ_ _ h=>B5 hp h) h
theorem FZ {a t:Addr}{us:List V}{l:Ln}(hp:∀ a,p a->LI (H a))(h1:H a=some (.tup [.int l.1,.ref t]))(h2:H t=some (.lst us))(h3:Ps K H l.2 us)(ht:¬p t):Da K (ip p H) (dL l) (.ref a):=by
 have hps:=IL hp h3
 have e1:ip p H t=some (.lst us):=by rw[iX ht];exact h2
 exact gd.mpr ⟨a,_,rfl,B5 hp (SqT.of h1),Dgs.two (gj.mpr rfl) (hps.da e1)⟩
noncomputable abbrev DS:=Option Ln×Option (List Int)
noncomputable def VL (K:PySem.W.Frag)(H:Hp):Option Ln->V->Prop
 |none,v=>v = .non
 |some l,v=>Da K H (dL l) v
noncomputable def VT (K:PySem.W.Frag)(H:Hp):Option (List Int)->V->Prop
 |none,v=>v = .non
 |some t,v=>Da K H (dI t) v
variable {H':Hp}
theorem VL.same (s:eW H H'):∀ {o:Option Ln}{v:V},VL K H o v->VL K H' o v
 |none,_,h=>h
 |some _,_,h=>Da.same s h
theorem VT.same (s:eW H H'):∀ {o:Option (List Int)}{v:V},VT K H o v->VT K H' o v
 |none,_,h=>h
 |some _,_,h=>Da.same s h
noncomputable def Oth (d:Addr)(H H':Hp):Prop:=∀ a o,a≠d->H a=some o->H' a=some o
theorem eW.oth {d:Addr}(s:eW H H'):Oth d H H':=λa o _ h=>s a o h
theorem Oth.trans {d:Addr}{H'':Hp}(s:Oth d H H')(t:Oth d H' H''):Oth d H H'':=λa o n h=>t a o n (s a o n h)
theorem Oth.upd {d:Addr}{H H':Hp}{o:HO}(s:Oth d H H'):Oth d H (upd H' d o):=λa u n h=>by rw[fw n];exact s a u n h
theorem Oth.hid {d:Addr}(s:Oth d H H')(pd:p d):eW (ip p H) (ip p H'):=λa o h=>by
 by_cases z:p a
 ·rw[sr z]at h;cases h
 ·rw[iX z]at h ⊢
  exact s a o (λe=>z (by rw[e];exact pd)) h
structure Dsk (K:PySem.W.Frag)(C:Addr)(p:Addr->Prop)(H:Hp)(d:Addr)(S:DS):Prop where
 at_:∃ dx v u,H d=some (.ins C dx [("line",v),("train",u)])/\VL K (ip p H) S.1 v/\VT K (ip p H) S.2 u
 pd:p d
 li:∀ a,p a->LI (H a)
theorem LI.same (s:eW H H')(h:∀ a,p a->LI (H a)):∀ a,p a->LI (H' a):=λa pa=>by
 rcases h a pa with⟨C,dx,fs,e⟩|⟨xs,e⟩
 ·exact .inl ⟨C,dx,fs,s _ _ e⟩
 ·exact .inr ⟨xs,s _ _ e⟩
theorem LI.upd {d:Addr}{o:HO}(h:∀ a,p a->LI (H a))(ho:LI (some o)):∀ a,p a->LI (L2.upd H d o a):=λa pa=>by
 by_cases e:a=d
 ·rw[e,eO];exact ho
 ·rw[fw e];exact h a pa
theorem Dsk.same {C:Addr}{d:Addr}{S:DS}(h:Dsk K C p H d S)(s:eW H H'):Dsk K C p H' d S:=by
 obtain⟨dx,v,u,h1,h2,h3⟩:=h.at_
 exact⟨⟨dx,v,u,s _ _ h1,h2.same (h8 s),h3.same (h8 s)⟩,h.pd,LI.same s h.li⟩
end TL
namespace TL
open PySem L2 PyProof.Rows
theorem Av {ks:List Int}{n:Int}(hn:ks.Nodup)(hb:∀ k∈ks,0<=k/\k<n):ks.length<=n.toNat:=by
 have:(ks.map Int.toNat).Nodup:=by
  rw[List.Nodup,cw]
  refine cX (λ{a b} ha hb' hne z=>hne ?_) hn
  have:=hb a ha
  have:=hb b hb'
  omega
 have h2:∀ x∈ks.map Int.toNat,x∈List.range n.toNat:=λx hx=>by
  obtain⟨k,hk,rfl⟩:=aA.mp hx
  have:=hb k hk
  exact bG.mpr (by omega)
 have:=mD this h2
 simpa using this
end TL
namespace TL
open PySem TS
open PyProof.Rows PySem.W
end TL
namespace TL
open PySem PySem.Spec PyProof.Rows L2 TS
end TL
namespace L2
open PySem PySem.Spec PyProof.Rows
end L2
namespace TL
open PySem PySem.Spec PyProof.Rows L2 TS
noncomputable def Ks (K:PySem.W.Frag):R2:=λx y H Q=>∃ l b xs zs,x = .ref l/\y = .ref b/\SqL K H l xs/\SqL K H b zs/\xs.length+zs.length<=sizeLine/\∀ p,H p=none->Q (.ref p) (upd H p (.lst (xs++zs)))
theorem Hf {X:Cx} :OpR X (binaryOp .Add) (Ks X.K):=by
 intro pins s σ H x y v u Q I rx ry h
 obtain⟨l,b,xs,zs,rfl,rfl,hH,hB,hz,q⟩:=h
 cases rx
 cases ry
 obtain⟨its,r,⟨⟨cls,dd,data,sl⟩,n,ho,hc,_,hd⟩,_⟩:=I.list hH
 obtain⟨Ec,r2,⟨⟨Xz,dd2,data2,sl2⟩,n2,ho2,hc2,_,hd2⟩,_⟩:=I.list hB
 simp only at hc hd hc2 hd2
 subst hc hd hc2 hd2
 have l1:=r.length
 have l2:=r2.length
 refine concat_meets ⟨_,ho,rfl⟩ ⟨_,ho2,rfl⟩ noFill_list_add seq_list_add PySem.F.slot_list_add PySem.F.entry_list_add (PySem.F.args_list_add_2 _ _) (list_addW l b its.toArray Ec.toArray n n2 dd dd2 sl sl2 (by rw[aJ,aJ];omega)) ⟨ho,ho2,?_⟩
 have e:its.toArray++Ec.toArray=(its++Ec).toArray:=by simp
 rw[e]
 exact⟨.ref _,_,I.Hk (t':=s.toks) (r.append r2) (by rw[aG];omega),rfl,q _ I.fresh⟩
end TL
namespace TL
open PySem PySem.Spec PyProof.Rows L2
section
variable {D:Ends}{σ:L2.St}{H:Hp}
theorem Ek {K:PySem.W.Frag}{a:Addr}{xs:List V}{g:TG}{tb:TS}(Pv:Nat->L2.St->Hp->Prop)(h0:Pv 0 σ H)(hl:∀ i σ H,i<=xs.length->Pv i σ H->SqL K H a xs)
  (hs:∀ i x σ H (N:L2.St->Hp->Prop) (R:VK) (B:L2.St->Hp->Prop),(∀ σ' H',Pv (i+1) σ' H'->N σ' H')->(∀ v H',D.rt v H'->R v H')->xs[i]? = some x->Pv i σ H->g x σ H λσ2 H2=>tb ⟨N,R,B,N⟩ σ2 H2) (hd:∀ σ H,Pv xs.length σ H->D.nx σ H):
  ∃ W:Nat->Nat->L2.St->Hp->Prop,(∃ m,W 0 m σ H)/\∀ i m σ H,W i m σ H->
   ((Itl K a).stop i H/\D.nx σ H)\/((Itl K a).go i H/\∃ N:L2.St->Hp->Prop,(∀ σ' H',N σ' H'->∃ m',m'<m/\W (i+1) m' σ' H')/\∀ x H',(Itl K a).yld i H x H'->g x σ H' λσ2 H2=>tb {D with nx:=N,ct:=N,bk:=D.nx} σ2 H2):=
 jE Pv h0 hl (λi x σ H hx p=>hs i x σ H _ _ _ (λ_ _ z=>z) (λ_ _ z=>z) hx p) hd
end
end TL
namespace K82
open PySem L2 TL PyProof.Rows
noncomputable abbrev St:=L2.St
noncomputable def top (i:Nat):Stmt:=PySem.Challenge.pw_turnline_k82_desk_refuses.main.body.getD i (.Pass ⟨0,0,0,0⟩)
noncomputable def lD:Sp:=λvs H Q _=>∃ e:Int,vs = [.int e]/\Q (.int (oth e)) H
noncomputable def rK:Sp:=λvs H Q _=>∃ e:Int,vs = [.int e]/\Q (.int (e/2)) H
noncomputable def yC (K:PySem.W.Frag):Sp:=λvs H Q _=>∃ (a:Addr) (ns:List Int) (k:Int),vs = [.ref a,.int k]/\SqL K H a (ns.map V.int)/\0<=k/\∀ c,Q (.int c) H
noncomputable def yx:Sp:=λvs H Q _=>∃ c k:Int,vs = [.int c,.int k]/\0<=k/\k<=1000/\∀ n,0<=n->n<2147483648->Q (.int n) H
noncomputable abbrev kh:Stmt:=top 12
theorem yI:fh ["end"] ["end"] (eT kh):=⟨rfl,rfl,rfl,by decide +kernel,rfl,by decide +kernel,by decide +kernel⟩
noncomputable abbrev j8:Stmt:=top 13
theorem zY:fh ["end"] ["end"] (eT j8):=⟨rfl,rfl,rfl,by decide +kernel,rfl,by decide +kernel,by decide +kernel⟩
noncomputable abbrev ki:Stmt:=top 87
theorem yJ:fh ["_law_end_here"] ["_law_end_here"] (eT ki):=⟨rfl,rfl,rfl,by decide +kernel,rfl,by decide +kernel,by decide +kernel⟩
noncomputable abbrev jV:Stmt:=top 85
theorem vi:fh ["_law_script","_law_k"] ["_law_script","_law_k"] (eT jV):=⟨rfl,rfl,rfl,by decide +kernel,rfl,by decide +kernel,by decide +kernel⟩
noncomputable abbrev mr:Stmt:=top 86
theorem mF:fh ["_law_cell","_law_k","_law_time","_law_number_here"] ["_law_cell","_law_k"] (eT mr):=⟨rfl,rfl,rfl,by decide +kernel,rfl,by decide +kernel,by decide +kernel⟩
section
variable {P:Program}{w:World}{K:PySem.W.Frag}{mg:Str->Option Value}{base:Heap}{f:Addr}{fd:FuncData}
theorem oZ (F:Fn K mg "other_end" kh ["end"] f fd):eX P w K mg base CX0 1 f fd ["end"] lD:=by
 refine F.F.ok yI (λvs H Q E h=>?_) (λcdv A outer s H vs Q E hr h=>?_)
 ·obtain⟨e,rfl,_⟩:=h;rfl
 ·obtain⟨e,rfl,k⟩:=h
  refine⟨_,(eQ (fb (eY IY (pv 0) eR))),?_⟩
  refine⟨_,rfl,_,_,rfl,rfl,?_⟩
  show Q (.int (Builtin.bitXor e 1)) H
  rw[GI];exact k
theorem ni (F:Fn K mg "piece_of" j8 ["end"] f fd):eX P w K mg base CX0 1 f fd ["end"] rK:=by
 refine F.F.ok zY (λvs H Q E h=>?_) (λcdv A outer s H vs Q E hr h=>?_)
 ·obtain⟨e,rfl,_⟩:=h;rfl
 ·obtain⟨e,rfl,k⟩:=h
  refine⟨_,(eQ (fb (eY gg (pv 0) eR))),?_⟩
  exact⟨_,rfl,_,_,rfl,rfl,⟨by decide,by decide⟩,k⟩
theorem o8 (F:Fn K mg "_law_other" ki ["_law_end_here"] f fd):eX P w K mg base CX0 1 f fd ["_law_end_here"] lD:=by
 refine F.F.ok yJ (λvs H Q E h=>?_) (λcdv A outer s H vs Q E hr h=>?_)
 ·obtain⟨e,rfl,_⟩:=h;rfl
 ·obtain⟨e,rfl,k⟩:=h
  refine⟨_,(eQ (fb (eY sR (eY iI (pv 0) eR) (eY jm (eY gk (pv 0) eR) eR)))),?_⟩
  refine⟨_,rfl,_,_,rfl,rfl,_,rfl,_,_,rfl,rfl,by show(0:Int)<2;decide,_,_,rfl,rfl,.inr ⟨by decide,by decide⟩,_,_,rfl,rfl,?_⟩
  show Q (.int (e+1-e%2*2)) H
  have:e+1-e%2*2=oth e:=by unfold oth;omega
  rw[this];exact k
theorem p9 (F:Fn K mg "_law_cell_at" jV ["_law_script","_law_k"] f fd)(B:Bl mg):eX P w K mg base CX0 1 f fd ["_law_script","_law_k"] (yC K):=by
 refine F.F.ok vi (λvs H Q E h=>?_) (λcdv A outer s H vs Q E hr h=>?_)
 ·obtain⟨a,ns,k,rfl,_⟩:=h;rfl
 ·obtain⟨a,ns,k,rfl,hS,h0,q⟩:=h
  refine⟨_,(eP (fF (fC (pL (pv 1) (fA fI rfl B.len bz (eL (pv 0) eM))))
 (eQ (fb (fU fM (pv 0) (pv 1) (λ_ _=>rfl)))) fc)
 (eQ (fb eR))),?_⟩
  refine⟨_,rfl,_,rfl,a,_,rfl,.inl hS,_,_,rfl,rfl,_,rfl,fG (λhlt=>?_) (λ_=>?_)⟩
  ·have hlt:k<((ns.map V.int).length:Int):=by simpa using hlt
   rw[aa]at hlt
   have hg:(ns.map V.int)[k.toNat]? = some (V.int (ns.getD k.toNat 0)):=by
    rw[ah,ba]
    have:k.toNat<ns.length:=by omega
    simp[this]
   have e1:((k.toNat:Nat):Int)=k:=by omega
   exact⟨_,rfl,_,rfl,a,_,k,_,rfl,rfl,hS,by have h:=ik hg;rw[e1]at h;exact h,q _⟩
  ·exact q _
theorem rn (F:Fn K mg "_law_mix" mr ["_law_cell","_law_k"] f fd)(B:Bl mg):eX P w K mg base CX0 1 f fd ["_law_cell","_law_k"] yx:=by
 refine F.F.ok mF (λvs H Q E h=>?_) (λcdv A outer s H vs Q E hr h=>?_)
 ·obtain⟨c,k,rfl,_⟩:=h;rfl
 ·obtain⟨c,k,rfl,h0,h1,q⟩:=h
  refine⟨_,(eP (fF (fC (xQ (pv 0) (eY Bw eR eR)))
 (eP (jT bC rfl (sP rfl B.range (eL (pv 1) eM)) (fe (i:=2) mF.nd rfl (Or.inl rfl))
 (eQ (fk (i:=0) mF.nd rfl (Or.inl rfl) (eY gg (pv 0) (eY Bw eR eR)))))
 (eQ (fb (eY gk (pv 0) (eY Bw eR eR))))) fc)
 (eP (fk (i:=3) mF.nd rfl (Or.inl rfl) (eY gk (eY jm (eY iI (eY iI (eY gk (pv 0) eR) (eY jm (eY jm (pv 1) (pv 1)) eR)) (pv 1)) eR) eR))
 (eP (fk (i:=3) mF.nd rfl (Or.inl rfl) (eY gk (eY jm (pv 3) (pv 3)) eR))
 (eQ (fb (eY gg (eY gk (eY jm (pv 3) (eY iI (pv 3) eR)) eR) eR)))))),?_⟩
  refine⟨_,rfl,_,_,rfl,rfl,⟨by decide,by decide,by decide⟩,_,_,rfl,rfl,_,rfl,fG (λhlt=>?_) (λ_=>?_)⟩
  ·refine⟨_,rfl,_,rfl,by omega,by omega,tD (λi σ H2=>H2=H/\∃ (c:Int) (x:Option V),σ = [some (.int c),some (.int k),x,none]) ⟨rfl,c,none,rfl⟩ ?_ ?_⟩
   ·rintro i σ H2 hi ⟨rfl,c,x,rfl⟩
    exact⟨_,rfl,_,_,rfl,rfl,⟨by decide,by decide,by decide⟩,_,_,rfl,rfl,⟨by decide,by decide⟩,rfl,_,_,rfl⟩
   ·rintro σ H2 ⟨rfl,c,x,rfl⟩
    refine⟨_,rfl,_,_,rfl,rfl,⟨by decide,by decide,by decide⟩,_,_,rfl,rfl,(by show(0:Int)<_;decide),q _ ?_ ?_⟩
    ·show 0<=c%(10 ^ 6);omega
    ·show c%(10 ^ 6)<_;omega
  ·refine⟨_,rfl,_,_,rfl,rfl,(by show(0:Int)<_;decide),_,rfl,_,rfl,_,_,rfl,rfl,.inl ⟨by omega,by omega⟩,_,_,rfl,rfl,.inr ⟨by decide,by decide⟩,_,_,rfl,rfl,_,rfl,_,_,rfl,rfl,_,_,rfl,rfl,.inr ⟨by decide,by decide⟩,_,_,rfl,rfl,(by show(0:Int)<_;decide),?_⟩
   dsimp only
   generalize hn:(c%1000003+k*k*7919+k)*48271%2147483629=n
   have n0:0<=n:=by omega
   have n1:n<2147483629:=by omega
   refine⟨_,rfl,_,rfl,_,_,rfl,rfl,.inl ⟨by omega,by omega⟩,_,_,rfl,rfl,(by show(0:Int)<_;decide),?_⟩
   dsimp only
   generalize hm:n*n%2147483587=m
   have m0:0<=m:=by omega
   have m1:m<2147483587:=by omega
   refine⟨_,rfl,_,rfl,_,_,rfl,rfl,_,_,rfl,rfl,.inl ⟨by omega,by omega⟩,_,_,rfl,rfl,(by show(0:Int)<_;decide),_,_,rfl,rfl,⟨by decide,by decide⟩,q _ ?_ ?_⟩
   ·show 0<=m*(m+2)%2147483579/7;omega
   ·show m*(m+2)%2147483579/7<_;omega
end
variable {H:Hp}
theorem qF {t u:TS}{D:Ends}{σ:St}(J:St->Hp->Prop)(first:∀ nx:St->Hp->Prop,(∀ σ' H',J σ' H'->nx σ' H')->t {D with nx:=nx} σ H)(rest:∀ σ' H',J σ' H'->u D σ' H'):J9 t u D σ H:=
 first (u D) rest
structure Cl (mg:Str->Option Value)(t1 t2:Tok):Prop where
 ug:mg "MOST_PIECES" = some (.int 40 t1)
 uh:mg "MOST_JOINTS" = some (.int 80 t2)
structure Xl (K:PySem.W.Frag)(mg:Str->Option Value)(c:Addr):Prop where
 jq:Xc K mg "NoLine" c
noncomputable def zW (K:PySem.W.Frag):Sp:=λvs H Q _=>∃ (a:Addr) (m e:Int) (x:V),vs = [.ref a,.int e]/\SqT K H a [.int m,x]/\Q (.bl (decide (0<=e/\e<2*m))) H
noncomputable def HN (K:PySem.W.Frag)(C:Addr):Sp:=λvs H Q E=>∃ (a b:Addr) (m:Int) (x:V) (p:Int×Int),vs = [.ref a,.ref b]/\SqT K H a [.int m,x]/\SqT K H b [.int p.1,.int p.2]/\
 (okJ m p->Q .non H)/\(¬okJ m p->∀ e,H e=none->E (.ref C) (some e) H)
noncomputable def HM (K:PySem.W.Frag)(C:Addr):Sp:=λvs H Q E=>∃ (v:V) (l:Ln),vs = [v]/\Da K H (dL l) v/\l.2.length<=100000/\(gb l->∀ H',eW H H'->Q .non H')/\(¬gb l->∀ H',eW H H'->∀ e,H' e=none->E (.ref C) (some e) H')
noncomputable abbrev n6:Stmt:=top 14
theorem xJ:fh ["line","end"] ["line","end"] (eT n6):=⟨rfl,rfl,rfl,by decide +kernel,rfl,by decide +kernel,by decide +kernel⟩
noncomputable abbrev lB:Stmt:=top 16
theorem mG:fh ["line","joint","low","high"] ["line","joint"] (eT lB):=⟨rfl,rfl,rfl,by decide +kernel,rfl,by decide +kernel,by decide +kernel⟩
noncomputable abbrev mi:Stmt:=top 15
theorem jU:fh ["line","many","joints","seen","joint"] ["line"] (eT mi):=⟨rfl,rfl,rfl,by decide +kernel,rfl,by decide +kernel,by decide +kernel⟩
variable {f1 f2 f3:Addr}{fd1 fd2 fd3:FuncData}
section
variable {P:Program}{w:World}{K:PySem.W.Frag}{mg:Str->Option Value}{base:Heap}{f:Addr}{fd:FuncData}{c1:Addr}{t1 t2:Tok}
theorem DT (F:Fn K mg "is_end" n6 ["line","end"] f fd):eX P w K mg base CX0 1 f fd ["line","end"] (zW K):=by
 refine F.F.ok xJ (λvs H Q E h=>?_) (λcdv A outer s H vs Q E hr h=>?_)
 ·obtain⟨a,m,e,x,rfl,_⟩:=h;rfl
 ·obtain⟨a,m,e,x,rfl,ht,k⟩:=h
  refine⟨_,(eQ (fb (Af HV HU eR (pv 1) (eY jm eR (fU lR (pv 0) eR (λ_ _=>rfl)))))),?_⟩
  refine⟨_,rfl,_,_,rfl,rfl,_,rfl,fG (λh=>?_) (λh=>?_)⟩
  ·have h:0<=e:=by simpa using h
   refine⟨_,rfl,a,_,_,_,rfl,rfl,ht,rfl,_,_,rfl,rfl,.inl ⟨by decide,by decide⟩,_,_,rfl,rfl,?_⟩
   have e1:decide (0<=e/\e<2*m)=decide (e<2*m):=by simp[h]
   rw[e1]at k
   exact k
  ·have h:¬0<=e:=by simpa using h
   have e1:decide (0<=e/\e<2*m)=false:=by simp[h]
   rw[e1]at k
   exact k
theorem vN (F:Fn K mg "check_joint" lB ["line","joint"] f fd)(XS:Xl K mg c1)(ig:Fn K mg "is_end" n6 ["line","end"] f1 fd1)
  (fB:Fn K mg "piece_of" j8 ["end"] f2 fd2):eX P w K mg base (CXr P w base) 2 f fd ["line","joint"] (HN K c1):=by
 have sH:eX P w K mg base CX0 1 f1 fd1 ["line","end"] (zW K):=DT ig
 have i4:eX P w K mg base CX0 1 f2 fd2 ["end"] rK:=ni fB
 refine F.F.okX mG (λvs H Q E h=>?_) (λcdv A outer s H vs Q E hr h=>?_)
 ·obtain⟨a,b,m,x,p,rfl,_⟩:=h;rfl
 ·obtain⟨a,b,m,x,⟨lo,hi⟩,rfl,hl,hj,k1,k2⟩:=h
  dsimp only at hj
  refine⟨_,(eP (nH (pv 1) (jk (n:=2) rfl (fu (fe (i:=2) mG.nd rfl (Or.inl rfl)) (fu (fe (i:=3) mG.nd rfl (Or.inl rfl)) gN))))
 (eP (fF (PW.pt (jS (nG (rk (eS sH (hr.mono (by decide)) rfl ig.m ig.F.kp ig.b .nil fo (eL (pv 0) (eL (pv 2) eM))))) (j9 (nG (rk (eS sH (hr.mono (by decide)) rfl ig.m ig.F.kp ig.b .nil fo (eL (pv 0) (eL (pv 3) eM))))))))
 (eQ (gx gh rfl rfl XS.jq.m XS.jq.q az (eL eU eM))) fc)
 (eP (fF (fC (pZ (pv 2) (pv 3)))
 (eQ (gx gh rfl rfl XS.jq.m XS.jq.q az (eL eU eM))) fc)
 (eQ (fF (fC (mO (eS i4 (hr.mono (by decide)) rfl fB.m fB.F.kp fB.b .nil fo (eL (pv 2) eM)) (eS i4 (hr.mono (by decide)) rfl fB.m fB.F.kp fB.b .nil fo (eL (pv 3) eM))))
 (eQ (gx gh rfl rfl XS.jq.m XS.jq.q az (eL eU eM))) fc))))),?_⟩
  refine⟨_,rfl,b,_,rfl,hj,rfl,_,_,rfl,_,_,rfl,rfl,?_⟩
  refine⟨_,rfl,_,rfl,a,m,lo,x,rfl,hl,_,rfl,fG (λh=>?_) (λh=>?_)⟩
  ·have h:¬(0<=lo/\lo<2*m):=λz=>by simp[z]at h
   exact ib ⟨by decide,λe he=>k2 (λz=>h z.1) e he⟩
  have h1:0<=lo/\lo<2*m:=by simpa using h
  refine⟨_,rfl,_,rfl,a,m,hi,x,rfl,hl,_,rfl,fG (λh=>?_) (λh=>?_)⟩
  ·have h:¬(0<=hi/\hi<2*m):=λz=>by simp[z]at h
   exact⟨by decide,λe he=>k2 (λz=>h z.2.1) e he⟩
  have h2:0<=hi/\hi<2*m:=by simpa using h
  refine⟨_,rfl,_,rfl,_,_,rfl,rfl,_,rfl,fG (λh=>?_) (λh=>?_)⟩
  ·have h:lo>hi:=by simpa using h
   exact⟨by decide,λe he=>k2 (λz=>by have:=z.2.2.1;dsimp only at this;omega) e he⟩
  have h3:lo<=hi:=by have h:¬lo>hi:=(by simpa using h);omega
  refine⟨_,rfl,lo,rfl,_,rfl,hi,rfl,_,_,rfl,rfl,_,rfl,fG (λh=>?_) (λh=>?_)⟩
  ·have h:lo/2=hi/2:=by simpa using h
   exact⟨by decide,λe he=>k2 (λz=>z.2.2.2 h) e he⟩
  have h4:lo/2≠hi/2:=by simpa using h
  exact k1 ⟨h1,h2,h3,h4⟩
theorem xh (F:Fn K mg "check_line" mi ["line"] f fd)(XS:Xl K mg c1)(B:Bm mg)(C:Cl mg t1 t2)(ji:Fn K mg "check_joint" lB ["line","joint"] f3 fd3)
  (nT:eX P w K mg base (CXr P w base) 2 f3 fd3 ["line","joint"] (HN K c1)):eX P w K mg base (CXr P w base) 3 f fd ["line"] (HM K c1):=by
 refine F.F.okX jU (λvs H Q E h=>?_) (λcdv A outer s H vs Q E hr h=>?_)
 ·obtain⟨v,l,rfl,_⟩:=h;rfl
 ·obtain⟨v,⟨m,js⟩,rfl,hv,hz,k1,k2⟩:=h
  obtain⟨a,b,rfl,ht,us,hl,hq⟩:=i3 hv
  dsimp only at ht hq hz
  have hul:us.length=js.length:=by rw[Dgs.length hq,aa]
  obtain⟨ps,rfl,sk,hT⟩:=vB hq
  have hpl:ps.length=js.length:=by rw[aa]at hul;exact hul
  refine⟨_,(eP (nH (pv 0) (jk (n:=2) rfl (fu (fe (i:=1) jU.nd rfl (Or.inl rfl)) (fu (fe (i:=2) jU.nd rfl (Or.inl rfl)) gN))))
 (eP (fF (PW.pt (jS (fC (pL (pv 1) eR)) (j9 (fC (pZ (pv 1) (jJ (v:=.int 40) rfl C.ug ⟨_,rfl⟩))))))
 (eQ (gx gh rfl rfl XS.jq.m XS.jq.q az (eL (vx (i:=40) rfl C.ug ⟨_,rfl⟩ (by decide) (by decide)) eM))) fc)
 (eP (fF (fC (pZ (fA fI rfl B.len bz (eL (pv 2) eM)) (jJ (v:=.int 80) rfl C.uh ⟨_,rfl⟩)))
 (eQ (gx gh rfl rfl XS.jq.m XS.jq.q az (eL (vx (i:=80) rfl C.uh ⟨_,rfl⟩ (by decide) (by decide)) eM))) fc)
 (eP (fk (i:=3) jU.nd rfl (Or.inl rfl) (Bu BU rfl B.set boot_set))
 (eQ (jT PassesOwn.leaving rfl (gc (pv 2)) (fe (i:=4) jU.nd rfl (Or.inl rfl))
 (eP (iB (eS nT (hr.mono (by decide)) rfl ji.m ji.F.kp ji.b .nil fj (eL (pv 0) (eL (pv 4) eM))))
 (eP (fF (fL (IZ (Ib hr)) (pv 4) (pv 3) (by with_unfolding_all rfl))
 (eQ (gx gh rfl rfl XS.jq.m XS.jq.q az (eL eU eM))) fc)
 (eQ (iB (IU PySem.F.slot_set_add PySem.F.type_set_add (FN (Ib hr)) (pv 3) (eL (pv 4) eM)))))))))))),?_⟩
  refine⟨_,rfl,a,_,rfl,ht,rfl,_,_,rfl,_,_,rfl,rfl,?_⟩
  refine⟨_,rfl,_,_,rfl,rfl,_,rfl,fG (λh=>?_) (λh=>?_)⟩
  ·have h:m<1:=by simpa using h
   exact ib λz=>⟨by show 1<=sizeLine;decide,λe he=>k2 (λz=>by have:=z.1;dsimp only at this;omega) H (eW.refl _) e he⟩
  have h1:¬m<1:=by simpa using h
  refine⟨_,rfl,_,_,rfl,rfl,_,rfl,fG (λh=>?_) (λh=>?_)⟩
  ·have h:m>40:=by simpa using h
   exact λz=>⟨by show 1<=sizeLine;decide,λe he=>k2 (λz=>by have:=z.2.1;dsimp only at this;omega) H (eW.refl _) e he⟩
  have h2:¬m>40:=by simpa using h
  refine⟨_,rfl,b,_,rfl,.inl hl,_,_,rfl,rfl,_,rfl,fG (λh=>?_) (λh=>?_)⟩
  ·have h:((ps.map λp=>V.ref p.2).length:Int)>80:=by simpa using h
   rw[aa,hpl]at h
   exact λz=>⟨by show 1<=sizeLine;decide,λe he=>k2 (λz=>by have:=z.2.2.1;dsimp only at this;omega) H (eW.refl _) e he⟩
  have h3:¬((ps.map λp=>V.ref p.2).length:Int)>80:=by simpa using h
  rw[aa,hpl]at h3
  refine⟨rfl,λq nq=>?_⟩
  have sq:∀ xs,eW H (upd H q (nQ P w q xs)):=λxs=>eN nq
  refine⟨_,rfl,b,rfl,⟨_,(sq []).seq hl⟩,jE (K:=K) (a:=b) (xs:=ps.map λp=>V.ref p.2) (λi σ H3=>∃ (xs:List (List Key×Addr)) (x4:Option V),σ = [some (.ref a),some (.int m),some (.ref b),some (.ref q),x4]/\H3=upd H q (nQ P w q xs)/\Met ps i xs/\(∀ p∈js.take i,okJ m p)/\(js.take i).Nodup)
   ⟨[],none,rfl,rfl,Met.zero ps,λp hp=>by simp at hp,by simp⟩ (λi σ H3 _ ⟨xs,_,_,e,_⟩=>e ▸ (sq xs).seq hl) ?_ ?_⟩
  ·rintro i y σ H3 hi ⟨xs,x4,rfl,rfl,M,al,nd⟩
   rw[ah]at hi
   obtain⟨⟨ky,ad⟩,hpi,rfl⟩:∃ p,ps[i]? = some p/\y = .ref p.2:=by
    cases q:ps[i]? with
    |none=>rw[q]at hi;cases hi
    |some e=>rw[q]at hi;cases hi;exact⟨e,rfl,rfl⟩
   have hil:i<js.length:=by have:=(af.mp hpi).1;omega
   have hji:js[i]? = some js[i]:=aO hil
   have hky:ky=kP js[i]:=by
    have e1:(keysOf ps)[i]? = some ky:=by unfold keysOf;rw[ah,hpi];rfl
    rw[sk,ah,hji]at e1
    exact(aZ e1).symm
   subst hky
   generalize js[i]=p at hji hpi
   have hta:SqT K H ad ((kP p).map kV):=hT (kP p,ad) (aB hpi)
   have htk:js.take (i+1)=js.take i ++ [p]:=by rw[bx,hji];rfl
   refine⟨_,rfl,_,rfl,a,ad,m,_,p,rfl,gv (sq xs) ht,gv (sq xs) hta,λhok=>?_,λhno e he=>k2 (λz=>hno (z.2.2.2.1 p (aB hji))) _ (sq xs) e he⟩
   have hTx:tM K (upd H q (nQ P w q xs)) xs:=λx hx=>gv (sq xs) (hT x (M.sub x hx))
   have uB:kP p∈keysOf xs↔p∈js.take i:=by
    rw[M.key]
    have:keysOf (ps.take i)=(js.take i).map kP:=by unfold keysOf at sk ⊢;rw[cV,sk,cV]
    rw[this,Jg]
   refine⟨_,rfl,_,rfl,q,xs,kP p,ad,rfl,rfl,eO,hTx,gv (sq xs) hta,_,rfl,fG (λh=>?_) (λh=>?_)⟩
   ·have h:p∈js.take i:=uB.mp (zm.mp h)
    refine⟨by decide,λe he=>k2 (λz=>?_) _ (sq xs) e he⟩
    have n2:=z.2.2.2.2
    dsimp only at n2
    have n3:(js.take (i+1)).Nodup:=n2.sublist (List.take_sublist _ _)
    rw[htk]at n3
    exact(cM.mp n3).2.2 p h p (by simp) rfl
   ·have h:p∉js.take i:=λz=>h (zm.mpr (uB.mpr z))
    refine⟨_,rfl,⟨q,xs,rfl,eO⟩,_,rfl,q,xs,kP p,ad,rfl,rfl,eO,hTx,gv (sq xs) hta,?_,λz=>absurd (uB.mp z) h,λz xs' hp=>?_⟩
    ·have:=mD M.nd (m:=keysOf (ps.take i)) λk hk=>(M.key k).mp hk
     unfold keysOf at this
     rw[aa,aa,aI]at this
     omega
    refine⟨xs',_,rfl,qC,M.new hpi z hp,λx hx=>?_,?_⟩
    ·rw[htk]at hx
     rcases aL.mp hx with z |z
     ·exact al x z
     ·have z:x=p:=by simpa using z
      rw[z];exact hok
    ·rw[htk]
     refine cM.mpr ⟨nd,by simp,λx hx y hy=>?_⟩
     have hy:y=p:=by simpa using hy
     rw[hy]
     exact λz=>h (z ▸ hx)
  ·rintro σ H3 ⟨xs,x4,rfl,rfl,M,al,nd⟩
   rw[aa,hpl,bo]at al nd
   exact k1 ⟨by show 1<=m;omega,by show m<=40;omega,by show js.length<=80;omega,al,nd⟩ _ (sq xs)
end
structure Ct (mg:Str->Option Value)(t3 t4:Tok):Prop where
 HJ:mg "FIGURES" = some (.str "0123456789" t3)
 sF:mg "MOST_FIGURES" = some (.int 40 t4)
structure Xx (K:PySem.W.Frag)(mg:Str->Option Value)(c:Addr):Prop where
 kO:Xc K mg "NoText" c
theorem Sr:∀ c,(c∈(Str.ofString "0123456789").cps.toList)↔48<=c/\c<=57:=by
 have e:(Str.ofString "0123456789").cps.toList = [48,49,50,51,52,53,54,55,56,57]:=by decide +kernel
 intro c
 rw[e]
 simp only[ay,aW,b9]
 omega
theorem Gu (c:Nat):(!(Builtin.Str.occurrences (Str.ofString "0123456789") ⟨#[c]⟩ 0 (Str.ofString "0123456789").length 1).isEmpty)=hU c:=by
 rw[PySem.StrLaws.found_one]
 unfold hU
 exact decide_eq_decide.mpr (Sr c)
theorem str_len (z:Str):z.length=z.cps.toList.length:=by simp[Str.length]
variable {z:Str}
theorem yt:z.length=0↔z.cps.toList = []:=by rw[str_len,cf]
theorem qB:Str.ofString "0" = mkS [48]:=by decide +kernel
theorem Cw:Str.ofString "<" = mkS [60]:=by decide +kernel
theorem yf:Str.ofString ">" = mkS [62]:=by decide +kernel
theorem iD:Str.ofString " " = chS 32:=by decide +kernel
theorem CO:Str.ofString "\n" = chS 10:=by decide +kernel
theorem log2_small {n:Int}(h0:0<=n)(h1:n<100000):n.natAbs.log2<1920:=by
 have:n.natAbs.log2<=n.natAbs:=Nat.log2_le_self _
 have h2:n.natAbs<2 ^ 17:=by omega
 by_cases h:n.natAbs=0
 ·rw[h];decide
 ·have:=(Nat.log2_lt h).mpr h2
  omega
noncomputable def yw (C:Addr):Sp:=λvs H Q E=>∃ z:Str,vs = [.str z]/\z.length<=100000/\(∀ n,g9 z.cps.toList=some n->∀ H',eW H H'->Q (.int n) H')/\(g9 z.cps.toList=none->∀ H',eW H H'->∀ e,H' e=none->E (.ref C) (some e) H')
noncomputable def rJ (C:Addr):Sp:=λvs H Q E=>∃ z:Str,vs = [.str z]/\z.length<=100000/\(∀ n,gB z.cps.toList=some n->∀ H',eW H H'->Q (.int n) H')/\(gB z.cps.toList=none->∀ H',eW H H'->∀ e,H' e=none->E (.ref C) (some e) H')
noncomputable def wds (z:Str):List Str:=Txt.split z (chS 32)
noncomputable def EV (C:Addr):Sp:=λvs H Q E=>∃ (z y:Str) (m:Int),vs = [.str z,.str y,.int m]/\z.length<=100000/\y.length<=100/\0<=m/\m<100/\
 ((wds z).head?=some y->((wds z).length:Int)=m+1->∀ (p:Addr) (H':Hp),eW H H'->H p=none->H' p=some (.lst ((wds z).tail.map V.str))->Q (.ref p) H')/\
 (¬((wds z).head?=some y/\((wds z).length:Int)=m+1)->∀ H',eW H H'->∀ e,H' e=none->E (.ref C) (some e) H')
noncomputable def rg:Sp:=λvs H Q _=>∃ e:Int,vs = [.int e]/\0<=e/\e<82/\Q (.str (txE e)) H
noncomputable abbrev mJ:Stmt:=top 54
theorem tT:fh ["end","piece"] ["end"] (eT mJ):=⟨rfl,rfl,rfl,by decide +kernel,rfl,by decide +kernel,by decide +kernel⟩
noncomputable abbrev iG:Stmt:=top 57
theorem vg:fh ["text"] ["text"] (eT iG):=⟨rfl,rfl,rfl,by decide +kernel,rfl,by decide +kernel,by decide +kernel⟩
theorem ow:gp (eT iG) ["text"] {kind:=.function,names:=[(Str.ofString ".0",.local),(Str.ofString "sign",.local),(Str.ofString "FIGURES",.globalImplicit)],isGenerator:=false,isCoroutine:=false,more:=[]} ["sign"] 1 [none]:=⟨rfl,by decide +kernel,by decide +kernel,by decide +kernel,rfl,by decide +kernel,rfl,by decide +kernel⟩
noncomputable abbrev j6:Stmt:=top 58
theorem tU:fh ["text","piece"] ["text"] (eT j6):=⟨rfl,rfl,rfl,by decide +kernel,rfl,by decide +kernel,by decide +kernel⟩
noncomputable abbrev jz:Stmt:=top 59
theorem pK:fh ["row","word","many","words"] ["row","word","many"] (eT jz):=⟨rfl,rfl,rfl,by decide +kernel,rfl,by decide +kernel,by decide +kernel⟩
section
variable {P:Program}{w:World}{K:PySem.W.Frag}{mg:Str->Option Value}{base:Heap}{f:Addr}{fd:FuncData}{D c1 c2 c3 c4 c5 c6 c7:Addr}{t1 t2 t3 t4:Tok}
theorem Aj (F:Fn K mg "show_end" mJ ["end"] f fd)(fB:Fn K mg "piece_of" j8 ["end"] f1 fd1):eX P w K mg base CX0 2 f fd ["end"] rg:=by
 have i4:eX P w K mg base CX0 1 f1 fd1 ["end"] rK:=ni fB
 refine F.F.ok tT (λvs H Q E h=>?_) (λcdv A outer s H vs Q E hr h=>?_)
 ·obtain⟨e,rfl,_⟩:=h;rfl
 ·obtain⟨e,rfl,h0,h1,k⟩:=h
  refine⟨_,(eP (fk (i:=1) tT.nd rfl (Or.inl rfl) (eS i4 (hr.mono (by decide)) rfl fB.m fB.F.kp fB.b .nil fo (eL (pv 0) eM)))
 (eQ (fb (FA (fC (mO (pv 0) (eY jm eR (pv 1)))) (uO (sQ (pv 1) (n8 yS))) (uO (sQ (pv 1) (n8 yS))))))),?_⟩
  refine⟨_,rfl,e,rfl,?_⟩
  have hl:=log2_small (n:=e/2) (by omega) (by omega)
  obtain⟨_,_,hz⟩:=qZ (n:=e/2) (by omega) (by omega)
  have he:∀ x:Str,(Str.empty++x)=x:=Str.empty_append
  have hz2:∀ x:Str,x.length<=10->x.length<=sizeLine:=λx h=>aT h (by rw[aE];decide)
  have hle:=(jj (e:=e) h0 (by omega)).2.2
  refine⟨_,rfl,_,rfl,_,_,rfl,rfl,.inl ⟨by decide,by decide⟩,_,_,rfl,rfl,_,rfl,fG (λh=>?_) (λh=>?_)⟩
  ·have h:e=2*(e/2):=by simpa using h
   refine⟨_,rfl,txN (e/2),.inl ⟨_,rfl,hl,rfl⟩,hz2 _ (by rw[he];omega),?_⟩
   rw[he]
   have e1:txN (e/2)++Str.ofString "<" = txE e:=by unfold txE;rw[av (by omega),Cw];rfl
   refine⟨hz2 _ (by rw[e1];omega),?_⟩
   rw[e1]
   exact⟨hz2 _ (by omega),k⟩
  ·have h:¬e=2*(e/2):=by simpa using h
   refine⟨_,rfl,txN (e/2),.inl ⟨_,rfl,hl,rfl⟩,hz2 _ (by rw[he];omega),?_⟩
   rw[he]
   have e1:txN (e/2)++Str.ofString ">" = txE e:=by unfold txE;rw[ak (by omega),yf];rfl
   refine⟨hz2 _ (by rw[e1];omega),?_⟩
   rw[e1]
   exact⟨hz2 _ (by omega),k⟩
end
theorem yF {n:Nat}(h:n<=100000):n<=sizeLine:=aT h (by rw[aE];decide)
theorem Im (z:Str)(i:Nat)(c:Nat)(h:z.cps[i]? = some c):z.cps.toList[i]? = some c:=by simpa using h
theorem De {l:List Nat}{c:Nat}{r:List Nat}(h:l=c::r):atI l 0=some c:=by
 have:=ik (xs:=l) (j:=0) (v:=c) (by rw[h];rfl)
 exact this
theorem nv {l:List Nat}{c:Nat}(h:l.getLast?=some c):atI l (-1)=some c:=by
 obtain⟨r,e⟩:∃ r,l=r ++ [c]:=by
  obtain⟨ys,rfl⟩:=List.getLast?_eq_some_iff.mp h
  exact⟨ys,rfl⟩
 rw[e]
 exact Ba r c
theorem wj {a b:Nat} :((⟨#[a]⟩:Str)=⟨#[b]⟩)↔a=b:=by
 constructor
 ·intro h;injection h with h;simpa using h
 ·intro h;rw[h]
section
variable {P:Program}{w:World}{K:PySem.W.Frag}{mg:Str->Option Value}{base:Heap}{f:Addr}{fd:FuncData}{c6:Addr}{t3 t4:Tok}
theorem vH (F:Fn K mg "read_number" iG ["text"] f fd)(B:Bm mg)(C:Ct mg t3 t4)(XS:Xx K mg c6):eX P w K mg base (CXr P w base) 1 f fd ["text"] (yw c6):=by
 refine F.F.okX vg (λvs H Q E h=>?_) (λcdv A outer s H vs Q E hr h=>?_)
 ·obtain⟨z,rfl,_⟩:=h;rfl
 ·obtain⟨z,rfl,hz,k1,k2⟩:=h
  have hzs:=yF hz
  have hsl:z.length=z.cps.toList.length:=str_len z
  refine⟨_,(eP (fF (PW.pt (jS (nG (pX (pv 0) (λ_=>rfl))) (j9 (fC (pZ (fA ph rfl B.len bz (eL (pv 0) eM)) (jJ (v:=.int 40) rfl C.sF ⟨_,rfl⟩))))))
 (eQ (gx gh rfl rfl XS.kO.m XS.kO.q az (eL (vx (i:=40) rfl C.sF ⟨_,rfl⟩ (by decide) (by decide)) eM))) fc)
 (eP (fF (nG (rk (fA (GD rfl) rfl B.all boot_all (eL (og (Fq (pv 0)) rfl ow (.name (by decide)) (λ_ _ _ _=>(fe (i:=0) ow.nd rfl (Or.inl rfl))) (λ_ _ _ _=>gU) (λ_ _ _ _=>(uP DM (pv 0) (jJ (v:=.str "0123456789") rfl C.HJ ⟨_,rfl⟩) (by with_unfolding_all rfl)))) eM))))
 (eQ (gx gh rfl rfl XS.kO.m XS.kO.q az (eL eU eM))) fc)
 (eP (fF (PW.pt (oY (fL oi (fU rz (pv 0) eR (λ_ _=>rfl)) eU (gZ _)) (mn (fL tY (pv 0) eU (gZ _)))))
 (eQ (gx gh rfl rfl XS.kO.m XS.kO.q az (eL eU eM))) fc)
 (eQ (fb (hZ yi rfl B.int boot_int (eL (pv 0) eM))))))),?_⟩
  refine⟨_,rfl,_,⟨hzs,rfl⟩,fG (λh=>?_) (λh=>?_)⟩
  ·have h:z.length=0:=by simpa using h
   refine ib λ_=>⟨by show 1<=sizeLine;decide,λe he=>k2 ?_ H (eW.refl _) e he⟩
   unfold g9
   rw[av (.inl (yt.mp h))]
  have h1:z.length≠0:=by simpa using h
  have hne:z.cps.toList≠ []:=λq=>h1 (yt.mpr q)
  refine⟨_,rfl,z,rfl,hzs,_,_,rfl,rfl,_,rfl,fG (λh=>?_) (λh=>?_)⟩
  ·have h:(z.length:Int)>40:=by simpa using h
   refine λ_=>⟨by show 1<=sizeLine;decide,λe he=>k2 ?_ H (eW.refl _) e he⟩
   unfold g9
   rw[av (.inr (by omega))]
  have h2:¬(z.length:Int)>40:=by simpa using h
  have hc0:¬(z.cps.toList = []\/40<z.cps.toList.length):=λq=>by
   rcases q with q |q
   ·exact hne q
   ·omega
  have hsz:z.cps.size=z.cps.toList.length:=by simp
  refine⟨_,rfl,z,rfl,λp np=>sf F9 z.cps.toList (λ_=>true) (λc=>V.bl (hU c)) np hsz (by rw[hsz,aE];omega) ?_ ?_⟩
  ·intro i x d H' hx hd sm P1 P0 p1 p0
   obtain⟨c,hc,rfl⟩:=hx
   have e0:c=d:=aZ ((Im z i c hc).symm.trans hd)
   subst e0
   refine iQ ?_
   refine⟨_,rfl,_,_,rfl,rfl,?_⟩
   have:=p1 rfl
   rw[<-Gu]at this
   exact this
  rw[jb]
  have e2:(z.cps.toList.map λc=>V.bl (hU c))=(z.cps.toList.map hU).map V.bl:=by rw[aY];rfl
  rw[e2]
  have s1:eW H (upd H p (.lst ((z.cps.toList.map hU).map V.bl))):=eN np
  have hp:=eO (H:=H) (a:=p) (o:=.lst ((z.cps.toList.map hU).map V.bl))
  generalize upd H p _=H1 at s1 hp ⊢
  have lS:(z.cps.toList.map hU).all id=z.cps.toList.all hU:=by rw[List.all_map];rfl
  refine⟨p,_,rfl,SqL.of hp,_,rfl,fG (λh=>?_) (λh=>?_)⟩
  ·rw[lS]at h
   have h:z.cps.toList.all hU=false:=by simpa using h
   refine⟨by decide,λe he=>k2 ?_ H1 s1 e he⟩
   unfold g9
   rw[ak hc0,av h]
  rw[lS]at h
  have h3:z.cps.toList.all hU=true:=by simpa using h
  have hc1:¬z.cps.toList.all hU=false:=by rw[h3];decide
  obtain⟨c0,r0,hcr⟩:∃ c r,z.cps.toList=c::r:=by
   cases q:z.cps.toList with
   |nil=>exact absurd q hne
   |cons c r=>exact⟨c,r,rfl⟩
  have hh:z.cps.toList.head?=some c0:=by rw[hcr];rfl
  have hz0:z=Str.ofString "0" ↔z.cps.toList = [48]:=by
   rw[qB]
   constructor
   ·intro q;rw[q,oj]
   ·intro q;rw[<-sW z,q]
  have fin:¬(z.cps.toList.head?=some 48/\z.cps.toList≠ [48])->∃ n:Int,g9 z.cps.toList=some n/\PySem.intText? z=some n:=λq=>by
   refine⟨_,?_,PySem.intText_digits (x:=z) ?_ hne (by omega)⟩
   ·unfold g9
    rw[ak hc0,ak hc1,ak q]
   ·intro c hc
    have:=bY.mp h3 c hc
    unfold hU at this
    exact cc this
  have ret:¬(z.cps.toList.head?=some 48/\z.cps.toList≠ [48])->∃ z' n,[V.str z] = [V.str z']/\PySem.intText? z'=some n/\z'.length<=640/\Q (.int n) H1:=λq=>by
   obtain⟨n,e1,e2⟩:=fin q
   exact⟨z,n,rfl,e2,by omega,k1 n e1 H1 s1⟩
  refine⟨_,rfl,z,0,c0,rfl,rfl,hzs,De hcr,rfl,_,rfl,fG (λh=>?_) (λh=>?_)⟩
  ·have h:(⟨#[c0]⟩:Str)=Str.ofString "0" :=by simpa using h
   have h:c0=48:=by
    rw[qB]at h
    exact wj.mp h
   refine⟨_,rfl,rfl,_,rfl,fG (λh'=>?_) (λh'=>?_)⟩
   ·have h':¬z=Str.ofString "0" :=by simpa using h'
    refine⟨by decide,λe he=>k2 ?_ H1 s1 e he⟩
    unfold g9
    rw[ak hc0,ak hc1,av ⟨by rw[hh,h],λq=>h' (hz0.mpr q)⟩]
   ·have h':z=Str.ofString "0" :=by simpa using h'
    exact⟨_,rfl,ret λq=>q.2 (hz0.mp h')⟩
  ·have h:¬(⟨#[c0]⟩:Str)=Str.ofString "0" :=by simpa using h
   have h:¬c0=48:=λq=>h (by rw[qB,q];rfl)
   exact⟨_,rfl,ret λq=>h (by have:=q.1;rw[hh]at this;exact aZ this)⟩
theorem Ak (F:Fn K mg "read_end" j6 ["text"] f fd)(XS:Xx K mg c6)(fT:Fn K mg "read_number" iG ["text"] f1 fd1)
  (gO:eX P w K mg base (CXr P w base) 1 f1 fd1 ["text"] (yw c6)):eX P w K mg base (CXr P w base) 2 f fd ["text"] (rJ c6):=by
 refine F.F.okX tU (λvs H Q E h=>?_) (λcdv A outer s H vs Q E hr h=>?_)
 ·obtain⟨z,rfl,_⟩:=h;rfl
 ·obtain⟨z,rfl,hz,k1,k2⟩:=h
  have hzs:=yF hz
  have hsl:z.length=z.cps.toList.length:=str_len z
  refine⟨_,(eP (fk (i:=1) tU.nd rfl (Or.inl rfl) (eS gO (hr.mono (by decide)) rfl fT.m fT.F.kp fT.b .nil fj (eL (gF vf (pv 0) gY (gX (pY mC eR))) eM)))
 (eP (fF (fL oi (fU rz (pv 0) (pY mC eR) (λ_ _=>rfl)) eU (gZ _))
 (eQ (fb (eY jm eR (pv 1)))) fc)
 (eP (fF (fL oi (fU rz (pv 0) (pY mC eR) (λ_ _=>rfl)) eU (gZ _))
 (eQ (fb (eY iI (eY jm eR (pv 1)) eR))) fc)
 (eQ (gx gh rfl rfl XS.kO.m XS.kO.q az (eL eU eM)))))),?_⟩
  refine⟨_,rfl,_,rfl,_,rfl,z,rfl,rfl,rfl,hzs,mkS z.cps.toList.dropLast,rfl,?_,?_,?_⟩
  ·rw[zg,bM];omega
  ·intro n hn H1 s1
   rw[oj]at hn
   have hne:z.cps.toList≠ []:=λq=>by rw[q]at hn;simp[g9]at hn
   obtain⟨c,hc⟩:∃ c,z.cps.toList.getLast?=some c:=by
    cases q:z.cps.toList.getLast? with
    |none=>exact absurd (List.getLast?_eq_none_iff.mp q) hne
    |some c=>exact⟨c,rfl⟩
   have hb:gB z.cps.toList=if c=60 then some (2*n)else if c=62 then some (2*n+1)else none:=by
    unfold gB
    rw[hn,hc]
    show(if some c=some 60 then _ else if some c=some 62 then _ else _)=_
    simp only[Option.some.injEq]
   refine⟨_,rfl,_,rfl,z,-1,c,rfl,rfl,hzs,nv hc,rfl,_,rfl,fG (λh=>?_) (λh=>?_)⟩
   ·have h:(⟨#[c]⟩:Str)=Str.ofString "<" :=by simpa using h
    have h:c=60:=by rw[Cw]at h;exact wj.mp h
    refine⟨_,rfl,_,_,rfl,rfl,.inl ⟨by decide,by decide⟩,k1 _ (by rw[hb,av h]) H1 s1⟩
   have h1:¬(⟨#[c]⟩:Str)=Str.ofString "<" :=by simpa using h
   have h1:¬c=60:=λq=>h1 (by rw[Cw,q];rfl)
   refine⟨_,rfl,_,rfl,z,-1,c,rfl,rfl,hzs,nv hc,rfl,_,rfl,fG (λh=>?_) (λh=>?_)⟩
   ·have h:(⟨#[c]⟩:Str)=Str.ofString ">" :=by simpa using h
    have h:c=62:=by rw[yf]at h;exact wj.mp h
    refine⟨_,rfl,_,_,rfl,rfl,.inl ⟨by decide,by decide⟩,_,_,rfl,rfl,k1 _ (by rw[hb,ak h1,av h]) H1 s1⟩
   have h2:¬(⟨#[c]⟩:Str)=Str.ofString ">" :=by simpa using h
   have h2:¬c=62:=λq=>h2 (by rw[yf,q];rfl)
   exact⟨by decide,λe he=>k2 (by rw[hb,ak h1,ak h2]) H1 s1 e he⟩
  ·intro hn H1 s1 e he
   rw[oj]at hn
   exact k2 (by unfold gB;rw[hn];rfl) H1 s1 e he
theorem uu (F:Fn K mg "words_behind" jz ["row","word","many"] f fd)(B:Bm mg)(XS:Xx K mg c6):eX P w K mg base (CXr P w base) 1 f fd ["row","word","many"] (EV c6):=by
 refine F.F.okX pK (λvs H Q E h=>?_) (λcdv A outer s H vs Q E hr h=>?_)
 ·obtain⟨z,y,m,rfl,_⟩:=h;rfl
 ·obtain⟨z,y,m,rfl,hz,hy,m0,m1,k1,k2⟩:=h
  refine⟨_,(eP (fk (i:=3) pK.nd rfl (Or.inl rfl) (jt aS bg bP mP (pv 0) (eL eU eM)))
 (eP (fF (PW.pt (jS (fL tY (fU fM (pv 3) eR (λ_ _=>rfl)) (pv 1) (gZ _)) (j9 (fC (vy (fA fI rfl B.len bz (eL (pv 3) eM)) (eY iI (pv 2) eR))))))
 (eQ (gx gh rfl rfl XS.kO.m XS.kO.q az (eL (uO (n8 (sQ (pv 1) (n8 (sQ (pv 2) (n8 yS)))))) eM))) fc)
 (eQ (fb (gF iU (pv 3) (gX eR) gY))))),?_⟩
  refine⟨_,rfl,rfl,z,_,rfl,rfl,by decide,hz,λp np=>?_⟩
  have ew:Txt.split z (Str.ofString " ")=wds z:=by rw[iD];rfl
  rw[ew]
  have s1:eW H (upd H p (.lst ((wds z).map V.str))):=eN np
  have hp:=eO (H:=H) (a:=p) (o:=.lst ((wds z).map V.str))
  generalize upd H p _=H1 at s1 hp ⊢
  obtain⟨c,r,hcr⟩:∃ c r,wds z=c::r:=by
   cases q:wds z with
   |nil=>exact absurd q (kB z 32)
   |cons c r=>exact⟨c,r,rfl⟩
  have hh:(wds z).head?=some c:=by rw[hcr];rfl
  have ht:((wds z).map V.str)[0]? = some (.str c):=by rw[hcr];rfl
  have Lj:¬((wds z).head?=some y/\((wds z).length:Int)=m+1)->(tFC (Str.ofString "a row is to be ") (tFV (Dz 1) (tFC (Str.ofString " and ") (tFV (Dz 2) (tFC (Str.ofString " more, with one blank between") tFN))))) [some (.str z),some (.str y),some (.int m),some (.ref p)] H1 Str.empty λz' H2=>z'.length<=sizeLine/\1<=sizeLine/\∀ e,H2 e=none->E (.ref c6) (some e) H2:=λq=>by
   have hm:(Str.ofString (toString m)).length<=2:=by
    have:∀ n:Nat,n<100->(Str.ofString (toString ((n:Nat):Int))).length<=2:=by decide +kernel
    have:=this m.toNat (by omega)
    rw[show((m.toNat:Nat):Int)=m by omega]at this
    exact this
   have e1:(Str.ofString "a row is to be ").length=15:=by decide +kernel
   have e2:(Str.ofString " and ").length=5:=by decide +kernel
   have e3:(Str.ofString " more, with one blank between").length=29:=by decide +kernel
   have lim:∀ n,n<=1000->n<=sizeLine:=λn h=>aT h (by rw[aE];decide)
   refine⟨lim _ (by rw[ag,e1];show 0+15<=_;omega),_,rfl,y,.inr ⟨rfl,lim _ (by omega)⟩,lim _ ?_,lim _ ?_,_,rfl,_,.inl ⟨m,rfl,log2_small (by omega) (by omega),rfl⟩,lim _ ?_,lim _ ?_,lim _ ?_,by decide,λe he=>k2 q H1 s1 e he⟩
   all_goals
    simp only[ag,e1,e2,e3]
    rw[show Str.empty.length=0 from rfl]
    omega
  refine⟨_,rfl,p,_,0,_,rfl,rfl,SqL.of hp,ik (j:=0) ht,_,rfl,rfl,_,rfl,fG (λh=>?_) (λh=>?_)⟩
  ·have h:¬c=y:=by simpa using h
   exact ib (Lj λq=>h (by have:=q.1;rw[hh]at this;exact aZ this))
  have h1:c=y:=by simpa using h
  refine⟨_,rfl,p,_,rfl,.inl (SqL.of hp),_,rfl,_,_,rfl,rfl,_,_,rfl,rfl,_,rfl,fG (λh=>?_) (λh=>?_)⟩
  ·have h:¬(((wds z).map V.str).length:Int)=m+1:=by simpa using h
   rw[aa]at h
   exact Lj λq=>h q.2
  have h2:(((wds z).map V.str).length:Int)=m+1:=by simpa using h
  rw[aa]at h2
  refine⟨_,rfl,_,rfl,p,_,rfl,SqL.of hp,λq nq=>?_⟩
  rw[wg _ (by decide)]
  refine k1 (by rw[hh,h1]) h2 q _ (s1.trans (eN nq)) (by cases q0:H q with
   |none=>rfl
   |some o=>rw[s1 _ _ q0]at nq;cases nq) ?_
  rw[eO,<-cW,show((1:Int)).toNat=1 from rfl,List.drop_one]
end
theorem xP {K:PySem.W.Frag}{H:Hp} :∀ {js:List (Int×Int)}{vs:List V},Das K H (js.map dP) vs->Ps K H js vs
 |[],vs,h=>by rw[dQ]at h;exact gA.mpr (gA.mp h)
 |j::js,vs,h=>by
  rw[aN]at h
  obtain⟨v,r,rfl,h1,h2⟩:=fO.mp h
  refine fO.mpr ⟨v,r,rfl,?_,xP h2⟩
  unfold dP at h1 ⊢
  obtain⟨a,us,rfl,ht,q⟩:=gd.mp h1
  obtain⟨v1,r',rfl,q1,q⟩:=fO.mp q
  obtain⟨v2,r',rfl,q2,q⟩:=fO.mp q
  exact gd.mpr ⟨a,_,rfl,ht,fO.mpr ⟨_,_,rfl,gj.mpr (gj.mp q1),fO.mpr ⟨_,_,rfl,gj.mpr (gj.mp q2),gA.mpr (gA.mp q)⟩⟩⟩
noncomputable def txP (m:Int):Str:=Str.ofString "pieces " ++ txN m
noncomputable def txJ (p:Int×Int):Str:=Str.ofString "joint " ++ txE p.1++Str.ofString " " ++ txE p.2
noncomputable def txR (l:Ln):List Str:=txP l.1::l.2.map txJ
noncomputable def txL (l:Ln):Str:=Str.join (chS 10) (txR l)
theorem DL:Str.ofString "pieces " = Str.ofString "pieces" ++ chS 32:=by decide +kernel
theorem Ga:Str.ofString "joint " = Str.ofString "joint" ++ chS 32:=by decide +kernel
theorem Ad:∀ c∈(Str.ofString "pieces").cps.toList,97<=c:=by decide +kernel
theorem BI:∀ c∈(Str.ofString "joint").cps.toList,97<=c:=by decide +kernel
theorem zM {n:Int}(h0:0<=n)(h1:n<41):∀ c∈(txN n).cps.toList,48<=c:=λc hc=>by
 have:=bY.mp (qZ h0 h1).2.1 c hc
 unfold hU at this
 exact(cc this).1
theorem JY {m:Int}(h0:0<=m)(h1:m<41):wds (txP m) = [Str.ofString "pieces",txN m]:=by
 unfold wds txP
 rw[DL]
 exact oK (ws:=[Str.ofString "pieces",txN m]) (by simp) λw hw=>by
  rcases ay.mp hw with rfl |hw
  ·exact λz=>by have:=Ad _ z;omega
  ·have hw:w=txN m:=by simpa using hw
   rw[hw]
   exact λz=>by have:=zM h0 h1 _ z;omega
theorem JZ {p:Int×Int}(h:(0<=p.1/\p.1<82)/\(0<=p.2/\p.2<82)):wds (txJ p) = [Str.ofString "joint",txE p.1,txE p.2]:=by
 have e:txJ p=Str.join (chS 32) [Str.ofString "joint",txE p.1,txE p.2]:=by
  unfold txJ
  rw[Ga,iD,gK,gK,TL.join_one]
  simp only[Str.append_assoc]
 unfold wds
 rw[e]
 refine oK (by simp) λw hw=>?_
 simp only[ay,aW,b9]at hw
 rcases hw with rfl |rfl |rfl
 ·exact λz=>by have:=BI _ z;omega
 ·exact λz=>by have:=(jj h.1.1 h.1.2).2.1 _ z;omega
 ·exact λz=>by have:=(jj h.2.1 h.2.2).2.1 _ z;omega
theorem Gn {m:Int}(h0:0<=m)(h1:m<41):(10:Nat)∉(txP m).cps.toList/\(txP m).length<=9:=by
 unfold txP
 rw[ij,ag]
 have e:∀ c∈(Str.ofString "pieces ").cps.toList,32<=c:=by decide +kernel
 have e2:(Str.ofString "pieces ").length=7:=by decide +kernel
 have:=(qZ h0 h1).2.2
 refine⟨λz=>?_,by omega⟩
 rcases aL.mp z with z |z
 ·have:=e _ z;omega
 ·have:=zM h0 h1 _ z;omega
theorem JF {p:Int×Int}(h:(0<=p.1/\p.1<82)/\(0<=p.2/\p.2<82)):(10:Nat)∉(txJ p).cps.toList/\(txJ p).length<=13:=by
 unfold txJ
 simp only[ij,ag]
 have e:∀ c∈(Str.ofString "joint ").cps.toList,32<=c:=by decide +kernel
 have e2:(Str.ofString "joint ").length=6:=by decide +kernel
 have e3:∀ c∈(Str.ofString " ").cps.toList,32<=c:=by decide +kernel
 have e4:(Str.ofString " ").length=1:=by decide +kernel
 obtain⟨_,f1,l1⟩:=jj h.1.1 h.1.2
 obtain⟨_,f2,l2⟩:=jj h.2.1 h.2.2
 refine⟨λz=>?_,by omega⟩
 rcases aL.mp z with z |z
 ·rcases aL.mp z with z |z
  ·rcases aL.mp z with z |z
   ·have:=e _ z;omega
   ·have:=f1 _ z;omega
  ·have:=e3 _ z;omega
 ·have:=f2 _ z;omega
noncomputable def small (l:Ln):Prop:=0<=l.1/\l.1<41/\l.2.length<=81/\∀ p∈l.2,(0<=p.1/\p.1<82)/\(0<=p.2/\p.2<82)
theorem gb.small {l:Ln}(h:gb l):small l:=by
 obtain⟨h1,h2,h3,h4,h5⟩:=h
 refine⟨by omega,by omega,by omega,λp hp=>?_⟩
 obtain⟨a,b,_⟩:=h4 p hp
 exact⟨⟨a.1,by omega⟩,b.1,by omega⟩
variable {l:Ln}
theorem uV (h:small l):∀ w∈txR l,(10:Nat)∉w.cps.toList/\w.length<=13:=λw hw=>by
 obtain⟨h1,h2,h3,h4⟩:=h
 rcases ay.mp hw with rfl |hw
 ·have:=Gn h1 h2;exact⟨this.1,by omega⟩
 ·obtain⟨p,hp,rfl⟩:=aA.mp hw
  exact JF (h4 p hp)
theorem sj:∀ {ws:List Str},(∀ w∈ws,w.length<=13)->(Str.join (chS 10) ws).length<=14*ws.length
 |[],_=>aV _
 |[a],h=>by
  have:=h a au
  show a.length<=_
  have:[a].length=1:=rfl
  omega
 |a::b::r,h=>by
  have h1:=h a au
  have h2:=sj (ws:=b::r) λw hw=>h w (aq _ hw)
  rw[gK,ag,ag,aH]
  show a.length+1+_<=_
  omega
theorem xC (h:small l):Txt.split (txL l) (chS 10)=txR l/\(txL l).length<=2000:=by
 have f:=uV h
 refine⟨oK (by simp[txR]) λw hw=>(f w hw).1,?_⟩
 have:=sj λw hw=>(f w hw).2
 have e:(txR l).length=l.2.length+1:=by simp[txR]
 have:=h.2.2.1
 unfold txL
 omega
noncomputable def rdJ (z:Str):Option (Int×Int):=match wds z with
 |[a,b,c]=>if a=Str.ofString "joint" then(gB b.cps.toList).bind λx=>(gB c.cps.toList).map λy=>(x,y)else none
 |_=>none
noncomputable def HL (C:Addr):Sp:=λvs H Q E=>∃ z:Str,vs = [.str z]/\z.length<=100000/\(∀ p,rdJ z=some p->∀ (q:Addr) H',eW H H'->H q=none->H' q=some (.tup [.int p.1,.int p.2])->Q (.ref q) H')/\(rdJ z=none->∀ H',eW H H'->∀ e,H' e=none->E (.ref C) (some e) H')
theorem Ko {p:Int×Int}(h:(0<=p.1/\p.1<82)/\(0<=p.2/\p.2<82)):rdJ (txJ p)=some p:=by
 unfold rdJ
 rw[JZ h]
 show(if Str.ofString "joint" = Str.ofString "joint" then _ else _)=_
 rw[av rfl,(jj h.1.1 h.1.2).1,(jj h.2.1 h.2.2).1]
 rfl
noncomputable abbrev mh:Stmt:=top 60
theorem nE:fh ["row","low","high"] ["row"] (eT mh):=⟨rfl,rfl,rfl,by decide +kernel,rfl,by decide +kernel,by decide +kernel⟩
section
variable {P:Program}{w:World}{K:PySem.W.Frag}{mg:Str->Option Value}{base:Heap}{f:Addr}{fd:FuncData}{c6 c1:Addr}{t3 t4:Tok}
theorem xa (F:Fn K mg "read_joint" mh ["row"] f fd)(fP:Fn K mg "read_end" j6 ["text"] f1 fd1)(gm:Fn K mg "words_behind" jz ["row","word","many"] f2 fd2)
  (gL:eX P w K mg base (CXr P w base) 2 f1 fd1 ["text"] (rJ c6)) (iR:eX P w K mg base (CXr P w base) 1 f2 fd2 ["row","word","many"] (EV c6)):eX P w K mg base (CXr P w base) 3 f fd ["row"] (HL c6):=by
 refine F.F.okX nE (λvs H Q E h=>?_) (λcdv A outer s H vs Q E hr h=>?_)
 ·obtain⟨z,rfl,_⟩:=h;rfl
 ·obtain⟨z,rfl,hz,k1,k2⟩:=h
  have hwl:∀ x∈wds z,x.length<=100000:=λx hx=>by
   have h:=vA (sep:=chS 32) hx
   unfold wds at h
   rw[cy]at h
   omega
  refine⟨_,(eP (nH (eS iR (hr.mono (by decide)) rfl gm.m gm.F.kp gm.b .nil fj (eL (pv 0) (eL eU (eL eR eM)))) (Fu (n:=2) rfl (fu (fe (i:=1) nE.nd rfl (Or.inl rfl)) (fu (fe (i:=2) nE.nd rfl (Or.inl rfl)) gN))))
 (eQ (fb (iq (eL (eS gL (hr.mono (by decide)) rfl fP.m fP.F.kp fP.b .nil fj (eL (pv 1) eM)) (eL (eS gL (hr.mono (by decide)) rfl fP.m fP.F.kp fP.b .nil fj (eL (pv 2) eM)) eM)))))),?_⟩
  refine⟨_,rfl,z,_,2,rfl,hz,by decide,by decide,by decide,λhh hl p H1 s1 np hp=>?_,λhn H1 s1 e he=>k2 ?_ H1 s1 e he⟩
  ·obtain⟨x,y,hw⟩:∃ x y,wds z = [Str.ofString "joint",x,y]:=by
    match q:wds z with
    |[]=>rw[q]at hh;cases hh
    |[a]=>rw[q]at hl;simp at hl
    |[a,b]=>rw[q]at hl;simp at hl
    |[a,b,c]=>rw[q]at hh;cases hh;exact⟨b,c,rfl⟩
    |a::b::c::d::r=>rw[q]at hl;simp at hl;omega
   rw[hw]at hp hwl
   have hJ:rdJ z=(gB x.cps.toList).bind λa=>(gB y.cps.toList).map λb=>(a,b):=by
    unfold rdJ
    rw[hw]
    show(if Str.ofString "joint" = Str.ofString "joint" then _ else _)=_
    rw[av rfl]
   refine⟨p,_,rfl,SqL.of hp,rfl,_,_,rfl,_,_,rfl,rfl,?_⟩
   refine⟨_,rfl,x,rfl,hwl x (by simp),λa ha H2 s2=>?_,λha H2 s2 e he=>k2 (by rw[hJ,ha];rfl) H2 (s1.trans s2) e he⟩
   refine⟨_,rfl,y,rfl,hwl y (by simp),λb hb H3 s3=>?_,λhb H3 s3 e he=>k2 (by rw[hJ,ha,hb];rfl) H3 (s1.trans (s2.trans s3)) e he⟩
   refine⟨by show 2<=sizeLine;decide,λq nq=>?_⟩
   exact k1 (a,b) (by rw[hJ,ha,hb];rfl) q _ (s1.trans (s2.trans (s3.trans (eN nq)))) (mx (s1.trans (s2.trans s3)) nq) eO
  ·unfold rdJ
   match q:wds z with
   |[]=>rfl
   |[a]=>rfl
   |[a,b]=>rfl
   |[a,b,c]=>
    show(if a=Str.ofString "joint" then _ else _)=_
    rw[ak]
    intro ha
    exact hn (by rw[q,ha];exact⟨rfl,rfl⟩)
   |a::b::c::d::r=>rfl
end
theorem me {n:Nat}(h:n<=1000):n<sizeLine:=bA h (by decide)
theorem JG {p d m:Int}(h0:0<=p)(h1:p<m)(d0:1<=d)(d1:d<m):(p+d)%m≠p/\0<=(p+d)%m/\(p+d)%m<m:=by
 refine⟨?_,bK _ (by omega),bB _ (by omega)⟩
 by_cases c:p+d<m
 ·rw[Int.emod_eq_of_lt (by omega) c];omega
 ·have e:p+d=(p+d-m)+m:=by omega
  rw[e,Int.add_emod_right,Int.emod_eq_of_lt (by omega) (by omega)];omega
theorem FY {m:Int}{js js':List (Int×Int)}{a b:Int}(L:gb (m,js))(hne:a/2≠b/2)(a0:0<=a)(a1:a<2*m)(b0:0<=b)(b1:b<2*m)(hn:(min a b,max a b)∉js)(hl:js.length<80)
  (pm:js'.Perm ((min a b,max a b)::js)):gb (m,js'):=by
 obtain⟨h1,h2,h3,h4,h5⟩:=L
 refine⟨h1,h2,by rw[pm.length_eq,aH];exact hl,λp hp=>?_,pm.nodup_iff.mpr (bI.mpr ⟨hn,h5⟩)⟩
 rcases ay.mp (pm.mem_iff.mp hp)with rfl |z
 ·unfold okJ
  dsimp only
  rcases Int.le_total a b with c |c
  ·rw[Int.min_eq_left c,Int.max_eq_right c];exact⟨⟨a0,a1⟩,⟨b0,b1⟩,c,hne⟩
  ·rw[Int.min_eq_right c,Int.max_eq_left c];exact⟨⟨b0,b1⟩,⟨a0,a1⟩,c,cB hne⟩
 ·exact h4 p z
noncomputable def B9 (K:PySem.W.Frag):Sp:=λvs H Q _=>∃ (a:Addr) (ns:List Int) (st mo up:Int),vs = [.ref a,.int st,.int mo,.int up]/\SqL K H a (ns.map V.int)/\0<=st/\1<=mo/\mo<=40/\0<=up/\up<=80/\∀ (p t:Addr) (us:List V) (l:Ln) (H':Hp),eW H H'->H p=none->H t=none->H' p=some (.tup [.int l.1,.ref t])->H' t=some (.lst us)->Ps K H' l.2 us->gb l->l.1<=mo->(l.2.length:Int)<=up->Q (.ref p) H'
noncomputable abbrev oS:Stmt:=top 88
theorem gP:fh ["_law_script","_law_start","_law_most","_law_upto","_law_head","_law_many","_law_joints","_law_k","_law_number_here","_law_one","_law_far","_law_other_here","_law_joint"] ["_law_script","_law_start","_law_most","_law_upto"] (eT oS):=⟨rfl,rfl,rfl,by decide +kernel,rfl,by decide +kernel,by decide +kernel⟩
section
variable {P:Program}{w:World}{K:PySem.W.Frag}{mg:Str->Option Value}{base:Heap}{f:Addr}{fd:FuncData}
theorem An (F:Fn K mg "_law_line" oS ["_law_script","_law_start","_law_most","_law_upto"] f fd)(fD:Fn K mg "_law_mix" mr ["_law_cell","_law_k"] f1 fd1)(fK:Fn K mg "_law_cell_at" jV ["_law_script","_law_k"] f2 fd2)
  (B:Bl mg):eX P w K mg base CX0 2 f fd ["_law_script","_law_start","_law_most","_law_upto"] (B9 K):=by
 have jc:eX P w K mg base CX0 1 f1 fd1 ["_law_cell","_law_k"] yx:=rn fD B
 have jX:eX P w K mg base CX0 1 f2 fd2 ["_law_script","_law_k"] (yC K):=p9 fK B
 refine F.F.ok gP (λvs H Q E h=>?_) (λcdv A outer s H vs Q E hr h=>?_)
 ·obtain⟨a,ns,st,mo,up,rfl,_⟩:=h;rfl
 ·obtain⟨a,ns,st,mo,up,rfl,hS,st0,mo0,mo1,up0,up1,k⟩:=h
  refine⟨_,(eP (fk (i:=4) gP.nd rfl (Or.inl rfl) (eS jc (hr.mono (by decide)) rfl fD.m fD.F.kp fD.b .nil fo (eL (eS jX (hr.mono (by decide)) rfl fK.m fK.F.kp fK.b .nil fo (eL (pv 0) (eL (pv 1) eM))) (eL eR eM))))
 (eP (fk (i:=5) gP.nd rfl (Or.inl rfl) (eY iI eR (eY gk (pv 4) (pv 2))))
 (eP (fk (i:=6) gP.nd rfl (Or.inl rfl) (fN eM))
 (eP (jT bC rfl (sP rfl B.range (eL (eY gk (eY gg (pv 4) eR) (eY iI (pv 3) eR)) eM)) (fe (i:=7) gP.nd rfl (Or.inl rfl))
 (eP (fk (i:=8) gP.nd rfl (Or.inl rfl) (eS jc (hr.mono (by decide)) rfl fD.m fD.F.kp fD.b .nil fo (eL (eS jX (hr.mono (by decide)) rfl fK.m fK.F.kp fK.b .nil fo (eL (pv 0) (eL (eY iI (eY iI (pv 1) eR) (eY gg (pv 7) eR)) eM))) (eL (eY gk (pv 7) eR) eM))))
 (eP (fk (i:=9) gP.nd rfl (Or.inl rfl) (eY gk (pv 8) (eY jm eR (pv 5))))
 (eP (fk (i:=8) gP.nd rfl (Or.inl rfl) (eY gg (pv 8) (eY jm eR (pv 5))))
 (eQ (fF (fC (pZ (pv 5) eR))
 (eP (fk (i:=10) gP.nd rfl (Or.inl rfl) (fU fM (fN (eL eR (eL (eY gk (eY gg (pv 8) eR) (eY sR (pv 5) eR)) eM))) (eY gk (eY gg (pv 8) eR) eR) (λ_ _=>rfl)))
 (eP (fk (i:=11) gP.nd rfl (Or.inl rfl) (eY iI (eY jm eR (eY gk (eY iI (eY iI (eY gg (pv 9) eR) eR) (pv 10)) (pv 5))) (eY gk (pv 8) eR)))
 (eP (fk (i:=12) gP.nd rfl (Or.inl rfl) (iq (eL (fA (Ew rfl) rfl B.min boot_min (eL (pv 9) (eL (pv 11) eM))) (eL (fA (Ey rfl) rfl B.max boot_max (eL (pv 9) (eL (pv 11) eM))) eM))))
 (eQ (fF (fL (kW hr.units) (pv 12) (pv 6) (by with_unfolding_all rfl))
 (eQ (iB (jt bj PySem.F.slot_list_insert PySem.F.type_list_insert DW (pv 6) (eL (eY gk (eY gg (pv 8) eR) (eY iI (fA fI rfl B.len bz (eL (pv 6) eM)) eR)) (eL (pv 12) eM))))) fc))))) fc))))))
 (eQ (fb (iq (eL (pv 5) (eL (pv 6) eM))))))))),?_⟩
  refine⟨_,rfl,_,rfl,a,ns,st,rfl,hS,st0,λcell=>?_⟩
  refine⟨cell,0,rfl,by decide,by decide,λhd hd0 _=>?_⟩
  refine⟨_,rfl,_,rfl,_,_,rfl,rfl,(by show(0:Int)<mo;omega),_,_,rfl,rfl,?_⟩
  have q0:0<=hd%mo:=bK _ (by omega)
  have q1:hd%mo<mo:=bB _ (by omega)
  dsimp only
  generalize hm:1+hd%mo=m
  have m1:1<=m:=by omega
  have m2:m<=40:=by omega
  refine⟨aV _,λt nt=>?_⟩
  refine⟨_,rfl,_,_,rfl,rfl,⟨by decide,by decide⟩,_,rfl,_,_,rfl,rfl,_,_,rfl,rfl,(by show(0:Int)<up+1;omega),?_⟩
  have u0:0<=hd/64%(up+1):=bK _ (by omega)
  have u1:hd/64%(up+1)<up+1:=bB _ (by omega)
  refine⟨_,rfl,by show -(2 ^ 62)<=hd/64%(up+1);omega,by show hd/64%(up+1)<2 ^ 62;omega,tD (λi σ H3=>∃ (vs:List V) (js:List (Int×Int)) (x7 x8 x9 x10 x11 x12:Option V),σ = [some (.ref a),some (.int st),some (.int mo),some (.int up),some (.int hd),some (.int m),some (.ref t),x7,x8,x9,x10,x11,x12]/\eW H H3/\H3 t=some (.lst vs)/\Ps K H3 js vs/\js.length<=i/\gb (m,js))
   ⟨[],[],none,none,none,none,none,none,rfl,eN nt,eO,gA.mpr rfl,aw _,⟨m1,m2,aV _,λp hp=>(nomatch hp),dh⟩⟩ ?_ ?_⟩
  ·rintro i σ H3 hi ⟨vs,js,x7,x8,x9,x10,x11,x12,rfl,S3,ht3,D,jl,L⟩
   have i0:(0:Int)+(i:Nat)=(i:Int):=by omega
   rw[i0]
   have hi':(i:Int)<80:=by
    have h:i<(hd/64%(up+1)).toNat:=hi
    omega
   refine⟨_,rfl,_,rfl,_,_,rfl,rfl,_,rfl,_,_,rfl,rfl,⟨by decide,by decide⟩,_,_,rfl,rfl,a,ns,_,rfl,S3.seq hS,(by show(0:Int)<=st+1+(i:Int)/8;omega),λc5=>?_⟩
   refine⟨_,rfl,_,_,rfl,rfl,(by show(0:Int)<_;decide),c5,_,rfl,(by show(0:Int)<=(i:Int)%8;omega),(by show(i:Int)%8<=1000;omega),λn5 n50 n51=>?_⟩
   refine⟨_,rfl,_,rfl,_,_,rfl,rfl,.inl ⟨by decide,by decide⟩,_,_,rfl,rfl,(by show(0:Int)<2*m;omega),?_⟩
   refine⟨_,rfl,_,rfl,_,_,rfl,rfl,.inl ⟨by decide,by decide⟩,_,_,rfl,rfl,⟨by show(0:Int)<2*m;omega,by show 2*m<1073741824;omega⟩,?_⟩
   have o0:0<=n5%(2*m):=bK _ (by omega)
   have o1:n5%(2*m)<2*m:=bB _ (by omega)
   dsimp only
   generalize n5%(2*m)=one at o0 o1
   generalize n5/(2*m)=r
   refine⟨_,rfl,_,_,rfl,rfl,_,rfl,fG (λh=>?_) (λh=>?_)⟩
   ·have hm1:1<m:=by simpa using h
    have f0:0<=r/4%(m-1):=bK _ (by omega)
    have f1:r/4%(m-1)<m-1:=bB _ (by omega)
    refine⟨_,rfl,_,_,rfl,rfl,⟨by decide,by decide⟩,_,rfl,_,_,rfl,rfl,_,_,rfl,rfl,(by show(0:Int)<m-1;omega),by show 2<=sizeLine;decide,λq3 nq3=>?_⟩
    dsimp only
    generalize r/4%(m-1)=fa at f0 f1
    obtain⟨far,Xy,hat⟩:∃ far:Int,(0<=far/\far<m-1)/\atI [V.int 0,V.int fa] (r/2%2)=some (.int far):=by
     have:r/2%2=0\/r/2%2=1:=by omega
     rcases this with e |e
     ·exact⟨0,by omega,by rw[e];rfl⟩
     ·exact⟨fa,⟨f0,f1⟩,by rw[e];rfl⟩
    refine⟨_,rfl,_,_,rfl,rfl,⟨by decide,by decide⟩,_,_,rfl,rfl,(by show(0:Int)<_;decide),q3,_,_,_,rfl,rfl,SqL.of eO,hat,?_⟩
    refine⟨_,rfl,_,_,rfl,rfl,⟨by decide,by decide⟩,_,_,rfl,rfl,_,rfl,_,_,rfl,rfl,_,rfl,_,_,rfl,rfl,(by show(0:Int)<m;omega),_,_,rfl,rfl,.inl ⟨by decide,by decide⟩,_,rfl,_,_,rfl,rfl,(by show(0:Int)<_;decide),_,_,rfl,rfl,?_⟩
    dsimp only
    obtain⟨g1,g2,g3⟩:=JG (p:=one/2) (d:=1+far) (m:=m) (by omega) (by omega) (by omega) (by omega)
    rw[show one/2+(1+far)=one/2+1+far by omega]at g1 g2 g3
    generalize (one/2+1+far)%m=pc at g1 g2 g3
    have b0:0<=2*pc+r%2:=by omega
    have b1:2*pc+r%2<2*m:=by omega
    have hne:one/2≠(2*pc+r%2)/2:=by omega
    generalize 2*pc+r%2=ot at b0 b1 hne
    refine⟨_,rfl,_,rfl,_,_,rfl,_,rfl,_,rfl,_,_,rfl,by show 2<=sizeLine;decide,λp1 n1=>?_⟩
    rw[Jf,Jh]
    have S4:=(eN nq3).trans (eN (o:=.tup [.int (min one ot),.int (max one ot)]) n1)
    have ht4:=S4 _ _ ht3
    have D4:=D.same S4
    have hp1:=eO (H:=upd H3 q3 (.lst [.int 0,.int fa])) (a:=p1) (o:=.tup [.int (min one ot),.int (max one ot)])
    generalize upd (upd H3 q3 _) p1 _=H4 at S4 ht4 D4 hp1 ⊢
    refine⟨_,rfl,_,rfl,_,_,D4.da ht4,gd.mpr ⟨p1,_,rfl,SqT.of hp1,Dgs.two (gj.mpr rfl) (gj.mpr rfl)⟩,Jd js,Ky (_,_),_,rfl,?_⟩
    refine fG (λhni=>?_) (λ_=>?_)
    ·have Si:(min one ot,max one ot)∉js:=λz=>by
      have e:=Ll js (min one ot,max one ot)
      unfold dP at e
      dsimp only at e
      unfold dP at hni
      rw[e]at hni
      simp[z]at hni
     have vl:=D4.len
     have w0:0<=r/64%((vs.length:Int)+1):=bK _ (by omega)
     have w1:r/64%((vs.length:Int)+1)<(vs.length:Int)+1:=bB _ (by omega)
     refine⟨_,rfl,.inl ⟨rfl,_,SqL.of ht4⟩,_,rfl,_,_,rfl,rfl,⟨by decide,by decide⟩,_,rfl,t,_,rfl,.inl (SqL.of ht4),_,_,rfl,rfl,_,_,rfl,rfl,(by show(0:Int)<(vs.length:Int)+1;omega),_,rfl,t,vs,_,_,rfl,rfl,ht4,w0,(by show r/64%((vs.length:Int)+1)<=(vs.length:Int);omega),me (by omega),?_⟩
     have pm:=Fv js (r/64%((vs.length:Int)+1)).toNat (min one ot,max one ot)
     refine⟨_,js.take (r/64%((vs.length:Int)+1)).toNat++(min one ot,max one ot)::js.drop (r/64%((vs.length:Int)+1)).toNat,_,_,_,_,_,_,rfl,eW.upd (S3.trans S4) nt,eO,?_,?_,FY L hne o0 o1 b0 b1 Si (by omega) pm⟩
     ·exact Ps.ins (x:=(min one ot,max one ot)) _ D4 ht4 hp1
     ·rw[pm.length_eq,aH];omega
    ·exact⟨vs,js,_,_,_,_,_,_,rfl,S3.trans S4,ht4,D4,by omega,L⟩
   ·exact⟨vs,js,_,_,_,_,_,_,rfl,S3,ht3,D,by omega,L⟩
  ·rintro σ H3 ⟨vs,js,x7,x8,x9,x10,x11,x12,rfl,S3,ht3,D,jl,L⟩
   refine⟨_,rfl,_,rfl,by show 2<=sizeLine;decide,λp np=>?_⟩
   have S4:=eN (o:=.tup [.int m,.ref t]) np
   exact k p t vs (m,js) _ (S3.trans S4) (mx S3 np) nt eO (S4 _ _ ht3) (D.same S4) L (by show m<=mo;omega) (by show(js.length:Int)<=up;have:js.length<=(hd/64%(up+1)).toNat:=jl;omega)
end
noncomputable def uZ (K:PySem.W.Frag):Sp:=λvs H Q _=>∃ (v:V) (l:Ln),vs = [v]/\Da K H (dL l) v/\small l/\∀ H',eW H H'->Q (.str (txL l)) H'
noncomputable def rL:Sp:=λvs H Q _=>∃ e:Int,vs = [.int e]/\0<=e/\e<82/\∀ H',eW H H'->Q (.str (txE e)) H'
noncomputable abbrev iO:Stmt:=top 92
theorem ur:fh ["_law_end_here"] ["_law_end_here"] (eT iO):=⟨rfl,rfl,rfl,by decide +kernel,rfl,by decide +kernel,by decide +kernel⟩
noncomputable abbrev i7:Stmt:=top 95
theorem iM:fh ["_law_line_here","_law_text","_law_one","_law_other_here"] ["_law_line_here"] (eT i7):=⟨rfl,rfl,rfl,by decide +kernel,rfl,by decide +kernel,by decide +kernel⟩
section
variable {P:Program}{w:World}{K:PySem.W.Frag}{mg:Str->Option Value}{base:Heap}{f:Addr}{fd:FuncData}
theorem lP (F:Fn K mg "_law_end_text" iO ["_law_end_here"] f fd)(B:Bm mg):eX P w K mg base CX0 1 f fd ["_law_end_here"] rL:=by
 refine F.F.ok ur (λvs H Q E h=>?_) (λcdv A outer s H vs Q E hr h=>?_)
 ·obtain⟨e,rfl,_⟩:=h;rfl
 ·obtain⟨e,rfl,h0,h1,k⟩:=h
  refine⟨_,(eQ (fb (eY fV (hZ mq rfl B.str boot_str (eL (eY gg (pv 0) eR) eM)) (fU fM (fN (eL eU (eL eU eM))) (eY gk (pv 0) eR) (λ_ _=>rfl))))),?_⟩
  refine⟨_,rfl,_,_,rfl,rfl,⟨by decide,by decide⟩,e/2,rfl,log2_small (by omega) (by omega),by show 2<=sizeLine;decide,λq nq=>?_⟩
  have lim:∀ n,n<=1000->n<=sizeLine:=λn h=>aT h (by rw[aE];decide)
  have l1:=(qZ (n:=e/2) (by omega) (by omega)).2.2
  have kk:=k _ (eN (o:=.lst [.str "<",.str ">"]) nq)
  refine⟨_,rfl,_,_,rfl,rfl,(by show(0:Int)<_;decide),?_⟩
  have:e%2=0\/e%2=1:=by omega
  rcases this with c |c
  ·have ec:txE e=txN (e/2)++Str.ofString "<" :=by unfold txE;rw[av c,Cw];rfl
   rw[ec]at kk
   refine⟨q,_,_,.str "<",rfl,rfl,SqL.of eO,by show atI _ (e%2)=_;rw[c];rfl,txN (e/2),_,rfl,rfl,lim _ ?_,kk⟩
   show(txN (e/2)).length+1<=_
   omega
  ·have ec:txE e=txN (e/2)++Str.ofString ">" :=by unfold txE;rw[ak (by omega),yf];rfl
   rw[ec]at kk
   refine⟨q,_,_,.str ">",rfl,rfl,SqL.of eO,by show atI _ (e%2)=_;rw[c];rfl,txN (e/2),_,rfl,rfl,lim _ ?_,kk⟩
   show(txN (e/2)).length+1<=_
   omega
theorem FH:Str.ofString "\njoint " = chS 10++Str.ofString "joint " :=by decide +kernel
theorem sU (F:Fn K mg "_law_line_text" i7 ["_law_line_here"] f fd)(B:Bm mg)(fv:Fn K mg "_law_end_text" iO ["_law_end_here"] f1 fd1):eX P w K mg base CX0 2 f fd ["_law_line_here"] (uZ K):=by
 have gQ:eX P w K mg base CX0 1 f1 fd1 ["_law_end_here"] rL:=lP fv B
 refine F.F.ok iM (λvs H Q E h=>?_) (λcdv A outer s H vs Q E hr h=>?_)
 ·obtain⟨v,l,rfl,_⟩:=h;rfl
 ·obtain⟨v,⟨m,js⟩,rfl,hv,sm,k⟩:=h
  obtain⟨a,b,rfl,ht,us,hl,hq⟩:=i3 hv
  obtain⟨h1,h2,h3,h4⟩:=id sm
  dsimp only at ht hq h1 h2 h3 h4
  have hul:us.length=js.length:=by rw[Dgs.length hq,aa]
  have lim:∀ n,n<=2000->n<=sizeLine:=λn h=>aT h (by rw[aE];decide)
  refine⟨_,(eP (fk (i:=1) iM.nd rfl (Or.inl rfl) (eY fV eU (hZ mq rfl B.str boot_str (eL (fU lR (pv 0) eR (λ_ _=>rfl)) eM))))
 (eP (jT bC rfl (gc (fU lR (pv 0) eR (λ_ _=>rfl))) (jk (n:=2) rfl (fu (fe (i:=2) iM.nd rfl (Or.inl rfl)) (fu (fe (i:=3) iM.nd rfl (Or.inl rfl)) gN)))
 (eQ (fk (i:=1) iM.nd rfl (Or.inl rfl) (eY fV (eY fV (eY fV (eY fV (pv 1) eU) (eS gQ (hr.mono (by decide)) rfl fv.m fv.F.kp fv.b .nil fo (eL (pv 2) eM))) eU) (eS gQ (hr.mono (by decide)) rfl fv.m fv.F.kp fv.b .nil fo (eL (pv 3) eM))))))
 (eQ (fb (pv 1))))),?_⟩
  have l0:=(Gn h1 h2).2
  have l1:(Str.ofString "pieces ").length+(txN m).length=(txP m).length:=by unfold txP;rw[ag]
  refine⟨_,rfl,a,_,_,_,rfl,rfl,ht,rfl,m,rfl,log2_small h1 (by omega),_,_,rfl,rfl,lim _ (by show(Str.ofString "pieces ").length+(txN m).length<=2000;omega),?_⟩
  refine⟨_,rfl,a,_,_,_,rfl,rfl,ht,rfl,b,rfl,⟨us,hl⟩,jE (K:=K) (a:=b) (xs:=us) (λi σ H3=>∃ x2 x3:Option V,σ = [some (.ref a),some (.str (Str.join (chS 10) (txP m::(js.take i).map txJ))),x2,x3]/\eW H H3)
   ⟨none,none,rfl,eW.refl _⟩ (λi σ H3 _ ⟨_,_,_,S⟩=>S.seq hl) ?_ ?_⟩
  ·rintro i y σ H3 hi ⟨x2,x3,rfl,S⟩
   have hi':i<us.length:=(af.mp hi).1
   obtain⟨ad,⟨ea,eb⟩,e1,rfl,hpr⟩:=qg (Das.same S hq) hi
   have hb:=h4 (ea,eb) (aB e1)
   dsimp only at hpr hb
   have f1:=(jj hb.1.1 hb.1.2).2.2
   have f2:=(jj hb.2.1 hb.2.2).2.2
   have g1:(Str.ofString "\njoint ").length=7:=by decide +kernel
   have g2:(Str.ofString " ").length=1:=by decide +kernel
   have hlen:(Str.join (chS 10) (txP m::(js.take i).map txJ)).length<=14*(i+1):=by
    have:=sj (ws:=txP m::(js.take i).map txJ) λw hw=>(uV sm w (by
     rcases ay.mp hw with z |z
     ·exact z ▸ au
     ·obtain⟨p,hp,rfl⟩:=aA.mp z
      exact aq _ (aA.mpr ⟨p,List.mem_of_mem_take hp,rfl⟩))).2
    rw[aH,aa,aI]at this
    omega
   generalize hT:Str.join (chS 10) (txP m::(js.take i).map txJ)=T at hlen
   refine⟨ad,_,rfl,hpr,rfl,_,_,rfl,_,_,rfl,rfl,?_⟩
   refine⟨_,rfl,T,_,rfl,rfl,lim _ (by omega),_,rfl,ea,rfl,hb.1.1,hb.1.2,λH4 s4=>⟨_,_,rfl,rfl,lim _ ?_,_,_,rfl,rfl,lim _ ?_,_,rfl,eb,rfl,hb.2.1,hb.2.2,λH5 s5=>⟨_,_,rfl,rfl,lim _ ?_,?_⟩⟩⟩
   ·rw[ag];omega
   ·rw[ag,ag];omega
   ·rw[ag,ag,ag];omega
   refine⟨some (.int ea),some (.int eb),?_,S.trans (s4.trans s5)⟩
   have hj:=join_snoc (chS 10) (txJ (ea,eb)) (ws:=txP m::(js.take i).map txJ) (by simp)
   have e3:txP m::(js.take (i+1)).map txJ=(txP m::(js.take i).map txJ) ++ [txJ (ea,eb)]:=by rw[bx,e1,aC];rfl
   rw[e3,hj,hT,FH]
   unfold txJ
   simp only[Str.append_assoc]
   rfl
  ·rintro σ H3 ⟨x2,x3,rfl,S⟩
   rw[hul,bo]
   exact⟨_,rfl,k H3 S⟩
end
noncomputable def qv {α:Type} :List (Option α)->Option (List α)
 |[]=>some []
 |none::_=>none
 |some a::r=>(qv r).map (a :: ·)
theorem kX {α:Type} :∀ (ds:List α),qv (ds.map some)=some ds
 |[]=>rfl
 |d::ds=>by show(qv (ds.map some)).map (d :: ·)=_;rw[kX ds];rfl
theorem mz {α:Type} :∀ {rs:List (Option α)},none∈rs->qv rs=none
 |none::_,_=>rfl
 |some a::r,h=>by
  have h:none∈r:=by simpa using h
  show(qv r).map (a :: ·)=_
  rw[mz h];rfl
noncomputable def rdH (h:Str):Option Int:=match wds h with
 |[a,b]=>if a=Str.ofString "pieces" then g9 b.cps.toList else none
 |_=>none
noncomputable def gW (z:Str):Option Ln:=match Txt.split z (chS 10)with
 |[]=>none
 |h::rows=>(rdH h).bind λm=>(qv (rows.map rdJ)).map λjs=>(m,js)
theorem Kp {m:Int}(h1:0<=m)(h2:m<41):rdH (txP m)=some m:=by
 unfold rdH
 rw[JY h1 h2]
 show(if _ then _ else _)=_
 rw[av rfl,(qZ h1 h2).1]
theorem Ff (h:small l):gW (txL l)=some l:=by
 unfold gW
 rw[(xC h).1]
 show((rdH (txP l.1)).bind λm=>(qv ((l.2.map txJ).map rdJ)).map λjs=>(m,js))=_
 rw[Kp h.1 h.2.1]
 have e:(l.2.map txJ).map rdJ=l.2.map some:=by
  rw[aY]
  exact List.map_congr_left λp hp=>Ko (h.2.2.2 p hp)
 rw[e,kX];rfl
noncomputable def HK (K:PySem.W.Frag)(c1 c6:Addr):Sp:=λvs H Q E=>∃ z:Str,vs = [.str z]/\z.length<=20000/\
 (∀ l,gW z=some l->gb l->∀ (p t:Addr) (us:List V) (H':Hp),eW H H'->H p=none->H t=none->H' p=some (.tup [.int l.1,.ref t])->H' t=some (.lst us)->Ps K H' l.2 us->Q (.ref p) H')/\
 (∀ l,gW z=some l->¬gb l->∀ H',eW H H'->∀ e,H' e=none->E (.ref c1) (some e) H')/\
 (gW z=none->∀ H',eW H H'->∀ e,H' e=none->E (.ref c6) (some e) H')
noncomputable abbrev lF:Stmt:=top 61
theorem kC:fh ["text","head","tail","many","line"] ["text"] (eT lF):=⟨rfl,rfl,rfl,by decide +kernel,rfl,by decide +kernel,by decide +kernel⟩
theorem qh:gp (eT lF) ["text","head","tail","many","line"] {kind:=.function,names:=[(Str.ofString ".0",.local),(Str.ofString "row",.local),(Str.ofString "read_joint",.globalImplicit)],isGenerator:=false,isCoroutine:=false,more:=[]} ["row"] 1 [none]:=⟨rfl,by decide +kernel,by decide +kernel,by decide +kernel,rfl,by decide +kernel,rfl,by decide +kernel⟩
variable {x:Str}
theorem qI {c:Nat}(h:x∈Txt.split z (chS c)):x.length<=z.length:=by
 have h:=vA (sep:=chS c) h
 rw[cy]at h
 exact h
variable {f4:Addr}{fd4:FuncData}
section
variable {P:Program}{w:World}{K:PySem.W.Frag}{mg:Str->Option Value}{base:Heap}{f:Addr}{fd:FuncData}{c6 c1:Addr}{t3 t4:Tok}
theorem yX (F:Fn K mg "read_line" lF ["text"] f fd)(fT:Fn K mg "read_number" iG ["text"] f1 fd1)(gm:Fn K mg "words_behind" jz ["row","word","many"] f2 fd2)
  (jQ:Fn K mg "read_joint" mh ["row"] f3 fd3) (jR:Fn K mg "check_line" mi ["line"] f4 fd4)
  (gO:eX P w K mg base (CXr P w base) 1 f1 fd1 ["text"] (yw c6)) (iR:eX P w K mg base (CXr P w base) 1 f2 fd2 ["row","word","many"] (EV c6))
  (pw:eX P w K mg base (CXr P w base) 3 f3 fd3 ["row"] (HL c6)) (px:eX P w K mg base (CXr P w base) 3 f4 fd4 ["line"] (HM K c1)):eX P w K mg base (CXr P w base) 4 f fd ["text"] (HK K c1 c6):=by
 refine F.F.okX kC (λvs H Q E h=>?_) (λcdv A outer s H vs Q E hr h=>?_)
 ·obtain⟨z,rfl,_⟩:=h;rfl
 ·obtain⟨z,rfl,hz,k,kl,kt⟩:=h
  refine⟨_,(eP (nH (jt aS bg bP mP (pv 0) (eL eU eM)) (Ft rfl (fu (fe (i:=1) kC.nd rfl (Or.inl rfl)) (Fs (fe (i:=2) kC.nd rfl (Or.inl rfl)) gN))))
 (eP (fk (i:=3) kC.nd rfl (Or.inl rfl) (eS gO (hr.mono (by decide)) rfl fT.m fT.F.kp fT.b .nil fj (eL (fU fM (eS iR (hr.mono (by decide)) rfl gm.m gm.F.kp gm.b .nil fj (eL (pv 1) (eL eU (eL eR eM)))) eR (λ_ _=>rfl)) eM)))
 (eP (fk (i:=4) kC.nd rfl (Or.inl rfl) (iq (eL (pv 3) (eL (Fz Ah (gc (pv 2)) rfl qh (.name (by decide)) (λ_ _ _ _=>(fe (i:=0) qh.nd rfl (Or.inl rfl))) (λ_ _ _ _=>gU) (λ_ _ _ _=>(eS pw (hr.mono (by decide)) rfl jQ.m jQ.F.kp jQ.b .nil tX (eL (pv 0) eM)))) eM))))
 (eP (iB (eS px (hr.mono (by decide)) rfl jR.m jR.F.kp jR.b .nil fj (eL (pv 4) eM)))
 (eQ (fb (pv 4))))))),?_⟩
  refine⟨_,rfl,rfl,_,_,rfl,rfl,by decide,by omega,λq0 nq0=>?_⟩
  rw[CO]
  obtain⟨hd,tl,hsp⟩:∃ hd tl,Txt.split z (chS 10)=hd::tl:=by
   cases q:Txt.split z (chS 10)with
   |nil=>exact absurd q (kB z 10)
   |cons a r=>exact⟨a,r,rfl⟩
  have hpl:∀ x∈hd::tl,x.length<=20000:=λx hx=>by rw[<-hsp]at hx;have:=qI hx;omega
  have hlen:(hd::tl).length<=20001:=by have h:=i9 z 10;have:=jK (Txt.split z (chS 10));rw[hsp]at h this;omega
  rw[aH]at hlen
  have hrd:gW z=(rdH hd).bind λm=>(qv (tl.map rdJ)).map λjs=>(m,js):=by unfold gW;rw[hsp]
  rw[hsp]
  have s1:eW H (upd H q0 (.lst ((hd::tl).map V.str))):=eN nq0
  have hq0:=eO (H:=H) (a:=q0) (o:=.lst ((hd::tl).map V.str))
  generalize upd H q0 _=H1 at s1 hq0 ⊢
  refine⟨q0,.str hd,tl.map V.str,rfl,SqL.of hq0,by rw[aa];omega,λq1 nq1=>?_⟩
  have s2:=s1.trans (eN (o:=.lst (tl.map V.str)) nq1)
  have hq1:=eO (H:=H1) (a:=q1) (o:=.lst (tl.map V.str))
  generalize upd H1 q1 _=H2 at s2 hq1 ⊢
  refine⟨_,_,rfl,_,_,rfl,rfl,?_⟩
  have hhd:=hpl hd au
  refine⟨_,rfl,hd,_,1,rfl,by omega,by decide,by decide,by decide,λhh hl q2 H3 s3 nq2 hq2=>?_,λhn H3 s3 e he=>kt ?_ H3 (s2.trans s3) e he⟩
  rotate_left
  ·rw[hrd]
   have:rdH hd=none:=by
    unfold rdH
    match q:wds hd with
    |[]=>rfl
    |[a]=>rfl
    |[a,b]=>
     show(if _ then _ else _)=_
     rw[ak]
     intro ha
     exact hn (by rw[q,ha];exact⟨rfl,rfl⟩)
    |a::b::c::r=>rfl
   rw[this];rfl
  obtain⟨x,hw⟩:∃ x,wds hd = [Str.ofString "pieces",x]:=by
   match q:wds hd with
   |[]=>rw[q]at hh;cases hh
   |[a]=>rw[q]at hl;simp at hl
   |[a,b]=>rw[q]at hh;cases hh;exact⟨b,rfl⟩
   |a::b::c::r=>rw[q]at hl;simp at hl;omega
  have hx:x.length<=20000:=by
   have:x∈wds hd:=by rw[hw];simp
   have:=qI this
   omega
  have hH:rdH hd=g9 x.cps.toList:=by
   unfold rdH
   rw[hw]
   show(if _ then _ else _)=_
   rw[av rfl]
  rw[hw]at hq2
  refine⟨q2,_,0,_,rfl,rfl,SqL.of hq2,ik (j:=0) rfl,x,rfl,by omega,λm hm H4 s4=>?_,λhn H4 s4 e he=>kt (by rw[hrd,hH,hn];rfl) H4 (s2.trans (s3.trans s4)) e he⟩
  rw[hH,hm]at hrd
  have hrd:gW z=(qv (tl.map rdJ)).map λjs=>(m,js):=hrd
  have hq4:SqL K H4 q1 (tl.map V.str):=SqL.of (s4 _ _ (s3 _ _ hq1))
  have T4:=s2.trans (s3.trans s4)
  refine⟨_,rfl,_,rfl,q1,rfl,⟨_,hq4⟩,λt nt=>F0 (K:=K) tl.length (tl.map rdJ) dP nt (by rw[aa]) (bA (show tl.length<=20000 by omega) (by rw[aE];decide)) (λi H s hi=>(gr hq4).go i H s (by rw[aa];exact hi)) (λH s=>by have:=(gr hq4).stop H s;rw[aa]at this;exact this) ?_ ?_⟩
  ·intro i y r G G' sm' ⟨vs',hl'⟩ yy hd' P1 P0 kk
   have hi:i<tl.length:=by have:=(af.mp hd').1;rw[aa]at this;exact this
   obtain⟨rfl,hx'⟩:=(gr hq4).yld i G y G' sm' (by rw[aa];exact hi) yy
   rw[ah]at hd' hx'
   obtain⟨row,vY⟩:∃ row,tl[i]? = some row:=⟨tl[i],by simp⟩
   rw[vY]at hd' hx'
   cases hx'
   have hr':rdJ row=r:=by simpa using hd'
   have hm':row∈tl:=aB vY
   have hrl:=hpl row (aq _ hm')
   refine iQ ?_
   refine⟨_,rfl,row,rfl,by omega,λp hp q3 G2 sG nq3 hq3=>?_,λhn G2 sG e he=>kt ?_ G2 (T4.trans (sm'.trans sG)) e he⟩
   ·refine kk p (by rw[<-hr',hp]) _ _ sG (gd.mpr ⟨q3,_,rfl,SqT.of ?_,Dgs.two (gj.mpr rfl) (gj.mpr rfl)⟩)
    rw[nM (cB (ft hl' nq3)),hq3]
   ·rw[hrd,mz (aA.mpr ⟨row,hm',hn⟩)];rfl
  intro js us1 H5 hjs s5 h5 D1
  rw[hjs,kX]at hrd
  have hrd:gW z=some (m,js):=hrd
  have hjl:js.length<=20000:=by have:=bF List.length hjs;rw[aa,aa]at this;omega
  have D1:Ps K H5 js us1:=xP (Das.same qe D1)
  refine⟨by show 2<=sizeLine;decide,λp np=>?_⟩
  have s6:=eN (o:=.tup [.int m,.ref t]) np
  have D2:=D1.same s6
  have h6:=s6 _ _ h5
  have hp6:=eO (H:=H5) (a:=p) (o:=.tup [.int m,.ref t])
  have s7:=T4.trans s5
  have nt0:H t=none:=mx T4 nt
  have np0:H p=none:=mx s7 np
  generalize upd H5 p _=H6 at s6 D2 h6 hp6 ⊢
  refine⟨_,rfl,_,(m,js),rfl,oo hp6 (D2.da h6),by show js.length<=100000;omega,λhL H7 s8=>?_,λhn H7 s8 e he=>kl _ hrd hn H7 (s7.trans (s6.trans s8)) e he⟩
  exact⟨_,rfl,k _ hrd hL p t us1 H7 (s7.trans (s6.trans s8)) np0 nt0 (s8 _ _ hp6) (s8 _ _ h6) (D2.same s8)⟩
end
noncomputable def rdT (z:Str):Option (List Int):=qv ((wds z).map λx=>gB x.cps.toList)
theorem Bb {α:Type} :∀ {rs:List (Option α)}{ds:List α},qv rs=some ds->rs=ds.map some
 |[],ds,h=>by cases h;rfl
 |none::r,ds,h=>by cases h
 |some x::r,ds,h=>by
  have h:(qv r).map (x :: ·)=some ds:=h
  cases q:qv r with
  |none=>rw[q]at h;cases h
  |some es=>rw[q]at h;cases h;rw[Bb q];rfl
noncomputable def B7 (C:Addr):Sp:=λvs H Q E=>∃ z:Str,vs = [.str z]/\z.length<=20000/\(∀ ns,rdT z=some ns->qN H ns Q)/\(rdT z=none->∀ H',eW H H'->∀ e,H' e=none->E (.ref C) (some e) H')
noncomputable abbrev iV:Stmt:=top 62
theorem wJ:fh ["text"] ["text"] (eT iV):=⟨rfl,rfl,rfl,by decide +kernel,rfl,by decide +kernel,by decide +kernel⟩
theorem pO:gp (eT iV) ["text"] {kind:=.function,names:=[(Str.ofString ".0",.local),(Str.ofString "word",.local),(Str.ofString "read_end",.globalImplicit)],isGenerator:=false,isCoroutine:=false,more:=[]} ["word"] 1 [none]:=⟨rfl,by decide +kernel,by decide +kernel,by decide +kernel,rfl,by decide +kernel,rfl,by decide +kernel⟩
section
variable {P:Program}{w:World}{K:PySem.W.Frag}{mg:Str->Option Value}{base:Heap}{f:Addr}{fd:FuncData}{c6:Addr}
theorem B2 (hz:z.length<=20000):(wds z).length<=20001:=by have h:=i9 z 32;have:=jK (Txt.split z (chS 32));unfold wds;omega
theorem wZ (F:Fn K mg "read_train" iV ["text"] f fd)(fP:Fn K mg "read_end" j6 ["text"] f1 fd1)
  (gL:eX P w K mg base (CXr P w base) 2 f1 fd1 ["text"] (rJ c6)):eX P w K mg base (CXr P w base) 3 f fd ["text"] (B7 c6):=by
 refine F.F.okX wJ (λvs H Q E h=>?_) (λcdv A outer s H vs Q E hr h=>?_)
 ·obtain⟨z,rfl,_⟩:=h;rfl
 ·obtain⟨z,rfl,hz,k,kt⟩:=h
  have hwl:=B2 hz
  have hpl:∀ x∈wds z,x.length<=20000:=λx hx=>by have:=qI hx;omega
  refine⟨_,(eQ (fb (Fz Ah (gc (jt aS bg bP mP (pv 0) (eL eU eM))) rfl pO (.name (by decide)) (λ_ _ _ _=>(fe (i:=0) pO.nd rfl (Or.inl rfl))) (λ_ _ _ _=>gU) (λ_ _ _ _=>(eS gL (hr.mono (by decide)) rfl fP.m fP.F.kp fP.b .nil tX (eL (pv 0) eM)))))),?_⟩
  refine⟨_,rfl,rfl,_,_,rfl,rfl,by decide,by omega,λq0 nq0=>?_⟩
  rw[iD]
  have s1:eW H (upd H q0 (.lst ((wds z).map V.str))):=eN nq0
  have hq0:(upd H q0 (.lst ((wds z).map V.str))) q0=some (.lst ((wds z).map V.str)):=eO
  show ∃ a,V.ref q0 = .ref a/\_
  have hq4:SqL K (upd H q0 (.lst ((wds z).map V.str))) q0 ((wds z).map V.str):=SqL.of hq0
  refine⟨q0,rfl,⟨_,hq4⟩,λt nt=>F0 (K:=K) (wds z).length ((wds z).map λx=>gB x.cps.toList) PyData.int nt (by rw[aa]) (bA hwl (by rw[aE];decide)) (λi H s hi=>(gr hq4).go i H s (by rw[aa];exact hi)) (λH s=>by have:=(gr hq4).stop H s;rw[aa]at this;exact this) ?_ ?_⟩
  ·intro i y r G G' sm' ⟨vs',hl'⟩ yy hd' P1 P0 kk
   have hi:i<(wds z).length:=by have:=(af.mp hd').1;rw[aa]at this;exact this
   obtain⟨rfl,hx'⟩:=(gr hq4).yld i G y G' sm' (by rw[aa];exact hi) yy
   rw[ah]at hd' hx'
   obtain⟨row,vY⟩:∃ row,(wds z)[i]? = some row:=⟨(wds z)[i],by simp⟩
   rw[vY]at hd' hx'
   cases hx'
   have hr':gB row.cps.toList=r:=by simpa using hd'
   have hm':row∈wds z:=aB vY
   have hrl:=hpl row hm'
   refine iQ ?_
   refine⟨_,rfl,row,rfl,by omega,λn hn G2 sG=>kk n (by rw[<-hr',hn]) _ _ sG (gj.mpr rfl),λhn G2 sG e he=>kt ?_ G2 (s1.trans (sm'.trans sG)) e he⟩
   unfold rdT
   exact mz (aA.mpr ⟨row,hm',hn⟩)
  intro ns us1 H5 hjs s5 h5 D1
  have hrd:rdT z=some ns:=by unfold rdT;rw[hjs,kX]
  rw[mU.mp D1]at h5
  exact k ns hrd t H5 (s1.trans s5) (mx s1 nt) h5
end
noncomputable def txT (ns:List Int):Str:=Str.join (chS 32) (ns.map txE)
noncomputable def txM (k:Str×Int):Str:=k.1++Str.ofString " " ++ txE k.2
noncomputable def uU (run:List (Str×Int)):Str:=Str.join (chS 32) (run.map txM)++(if(if run.isEmpty=true then(1:Int)else 0)=1 then Str.ofString "-" else Str.empty)
noncomputable def OkN (ns:List Int):Prop:=ns.length<=41/\∀ e∈ns,0<=e/\e<82
noncomputable def OkK (run:List (Str×Int)):Prop:=run.length<=330/\∀ k∈run,(k.1=Str.ofString "on" \/k.1=Str.ofString "back")/\0<=k.2/\k.2<82
theorem yd (n:Nat):∀ {ws:List Str},(∀ w∈ws,w.length<=n)->(Str.join (chS 32) ws).length<=(n+1)*ws.length
 |[],_=>aV _
 |[a],h=>by
  have:=h a au
  show a.length<=(n+1)*1
  omega
 |a::b::r,h=>by
  have h1:=h a au
  have h2:=yd n (ws:=b::r) λw hw=>h w (aq _ hw)
  rw[gK,ag,ag,aH,Nat.mul_succ]
  show a.length+1+_<=_
  omega
theorem Fe {ns:List Int}(h:OkN ns)(hne:ns≠ []):rdT (txT ns)=some ns/\(txT ns).length<=200:=by
 have hs:wds (txT ns)=ns.map txE:=by
  unfold wds txT
  refine oK (by simpa using hne) λw hw=>?_
  obtain⟨e,he,rfl⟩:=aA.mp hw
  exact λz=>by have:=(jj (h.2 e he).1 (h.2 e he).2).2.1 _ z;omega
 refine⟨?_,?_⟩
 ·unfold rdT
  rw[hs,aY]
  have:(ns.map ((λx:Str=>gB x.cps.toList) ∘ txE))=ns.map some:=List.map_congr_left λe he=>(jj (h.2 e he).1 (h.2 e he).2).1
  rw[this,kX]
 ·have:=yd 3 (ws:=ns.map txE) λw hw=>by
   obtain⟨e,he,rfl⟩:=aA.mp hw
   exact(jj (h.2 e he).1 (h.2 e he).2).2.2
  rw[aa]at this
  have:=h.1
  unfold txT
  omega
theorem xA (h:x=Str.ofString "on" \/x=Str.ofString "back"):(∀ c∈x.cps.toList,97<=c)/\x.length<=4:=by
 rcases h with rfl |rfl<;>decide +kernel
noncomputable def nX (K:PySem.W.Frag):Sp:=λvs H Q _=>∃ (v:V) (ns:List Int),vs = [v]/\Da K H (dI ns) v/\OkN ns/\∀ H',eW H H'->Q (.str (txT ns)) H'
noncomputable def zS (K:PySem.W.Frag):Sp:=λvs H Q _=>∃ (v:V) (run:List (Str×Int)),vs = [v]/\Da K H (dR run) v/\OkK run/\∀ H',eW H H'->Q (.str (uU run)) H'
noncomputable abbrev hX:Stmt:=top 93
theorem rP:fh ["_law_train_here"] ["_law_train_here"] (eT hX):=⟨rfl,rfl,rfl,by decide +kernel,rfl,by decide +kernel,by decide +kernel⟩
theorem ma:gp (eT hX) ["_law_train_here"] {kind:=.function,names:=[(Str.ofString ".0",.local),(Str.ofString "_law_end_here",.local),(Str.ofString "_law_end_text",.globalImplicit)],isGenerator:=false,isCoroutine:=false,more:=[]} ["_law_end_here"] 1 [none]:=⟨rfl,by decide +kernel,by decide +kernel,by decide +kernel,rfl,by decide +kernel,rfl,by decide +kernel⟩
noncomputable abbrev E9:Stmt:=top 94
section
variable {P:Program}{w:World}{K:PySem.W.Frag}{mg:Str->Option Value}{base:Heap}{f:Addr}{fd:FuncData}
theorem rY (F:Fn K mg "_law_train_text" hX ["_law_train_here"] f fd)(B:Bm mg)(fv:Fn K mg "_law_end_text" iO ["_law_end_here"] f1 fd1):eX P w K mg base CX0 2 f fd ["_law_train_here"] (nX K):=by
 have gQ:eX P w K mg base CX0 1 f1 fd1 ["_law_end_here"] rL:=lP fv B
 refine F.F.ok rP (λvs H Q E h=>?_) (λcdv A outer s H vs Q E hr h=>?_)
 ·obtain⟨v,ns,rfl,_⟩:=h;rfl
 ·obtain⟨v,ns,rfl,hv,hN,k⟩:=h
  obtain⟨a,rfl,hS⟩:=iJ.mp hv
  have hl:=hN.1
  refine⟨_,(eQ (fb (jt aS cm ck zf eU (eL (og (gc (pv 0)) rfl ma (.name (by decide)) (λ_ _ _ _=>(fe (i:=0) ma.nd rfl (Or.inl rfl))) (λ_ _ _ _=>gU) (λ_ _ _ _=>(eS gQ (hr.mono (by decide)) rfl fv.m fv.F.kp fv.b .nil fo (eL (pv 0) eM)))) eM)))),?_⟩
  refine⟨rfl,_,rfl,a,rfl,⟨_,hS⟩,λt nt=>sg ns.length ns (λ_=>true) (λe=>V.str (txE e)) nt rfl (me (by omega)) (λi H s hi=>(gr hS).go i H s (by rw[aa];exact hi)) (λH s=>by have:=(gr hS).stop H s;rw[aa]at this;exact this) ?_ ?_⟩
  ·intro i y d G G' sG yy hd P1 P0 p1 p0
   have hi:i<ns.length:=(af.mp hd).1
   obtain⟨rfl,hx'⟩:=(gr hS).yld i G y G' sG (by rw[aa];exact hi) yy
   rw[ah,hd]at hx'
   cases hx'
   have he:=hN.2 d (aB hd)
   refine iQ ?_
   exact⟨_,rfl,d,rfl,he.1,he.2,λG2 sG2=>p1 G2 rfl sG2⟩
  intro H5 s5 h5
  rw[jb]at h5
  refine⟨_,t,ns.map txE,rfl,rfl,SqL.of (by rw[h5,aY];rfl),λy hy=>?_,by rw[aa];omega,by decide,?_⟩
  ·obtain⟨e,he,rfl⟩:=aA.mp hy
   have:=(jj (hN.2 e he).1 (hN.2 e he).2).2.2
   omega
  ·rw[iD]
   exact k _ s5
end
noncomputable def qE (K:PySem.W.Frag):Sp:=λvs H Q _=>∃ (v:V) (l:Ln) (e:Int),vs = [v,.int e]/\Da K H (dL l) v/\gI l/\(∀ p∈l.2,p.1≠p.2)/\qN H (jn l.2 e) Q
noncomputable def uX (K:PySem.W.Frag):Sp:=λvs H Q _=>∃ (v:V) (l:Ln) (c n:Int),vs = [v,.int c,.int n]/\Da K H (dL l) v/\gI l/\(∀ p∈l.2,p.1≠p.2)/\0<=c/\1<=n/\n<=40/\
 ∀ (p:Addr) (ns:List Int) (H':Hp),eW H H'->H p=none->H' p=some (.lst (ns.map V.int))->ns≠ []->(ns.length:Int)<=n->pQ l ns->Q (.ref p) H'
noncomputable def zU (K:PySem.W.Frag):Sp:=λvs H Q _=>∃ (v u:V) (l:Ln) (ns:List Int),vs = [v,u]/\Da K H (dL l) v/\Da K H (dI ns) u/\gI l/\(∀ p∈l.2,p.1≠p.2)/\ns≠ []/\ns.length<=900/\Bc K H (mvs l ns) Q
noncomputable abbrev iW:Stmt:=top 89
theorem wL:fh ["_law_line_here","_law_end_here"] ["_law_line_here","_law_end_here"] (eT iW):=⟨rfl,rfl,rfl,by decide +kernel,rfl,by decide +kernel,by decide +kernel⟩
theorem lV:gp (eT iW) ["_law_line_here","_law_end_here"] {kind:=.function,names:=[(Str.ofString ".0",.local),(Str.ofString "_law_a",.local),(Str.ofString "_law_b",.local),(Str.ofString "_law_end_here",.free)],isGenerator:=false,isCoroutine:=false,more:=[]} ["_law_a","_law_b","_law_end_here"] 2 [none,none,some 1]:=⟨rfl,by decide +kernel,by decide +kernel,by decide +kernel,rfl,by decide +kernel,rfl,by decide +kernel⟩
noncomputable abbrev jA:Stmt:=top 90
theorem kD:fh ["_law_line_here","_law_number_here","_law_most","_law_train_here","_law_k","_law_pieces","_law_some"] ["_law_line_here","_law_number_here","_law_most"] (eT jA):=⟨rfl,rfl,rfl,by decide +kernel,rfl,by decide +kernel,by decide +kernel⟩
theorem qj:gp (eT jA) ["_law_line_here","_law_number_here","_law_most","_law_train_here","_law_k","_law_pieces","_law_some"] {kind:=.function,names:=[(Str.ofString ".0",.local),(Str.ofString "_law_end_here",.local)],isGenerator:=false,isCoroutine:=false,more:=[]} ["_law_end_here"] 1 [none]:=⟨rfl,by decide +kernel,by decide +kernel,by decide +kernel,rfl,by decide +kernel,rfl,by decide +kernel⟩
theorem qi:gp (eT jA) ["_law_line_here","_law_number_here","_law_most","_law_train_here","_law_k","_law_pieces","_law_some"] {kind:=.function,names:=[(Str.ofString ".0",.local),(Str.ofString "_law_end_here",.local),(Str.ofString "_law_pieces",.free)],isGenerator:=false,isCoroutine:=false,more:=[]} ["_law_end_here","_law_pieces"] 1 [none,some 5]:=⟨rfl,by decide +kernel,by decide +kernel,by decide +kernel,rfl,by decide +kernel,rfl,by decide +kernel⟩
noncomputable abbrev lG:Stmt:=top 91
theorem kE:fh ["_law_line_here","_law_train_here","_law_end_here","_law_pieces","_law_found"] ["_law_line_here","_law_train_here"] (eT lG):=⟨rfl,rfl,rfl,by decide +kernel,rfl,by decide +kernel,by decide +kernel⟩
theorem qk:gp (eT lG) ["_law_line_here","_law_train_here","_law_end_here","_law_pieces","_law_found"] {kind:=.function,names:=[(Str.ofString ".0",.local),(Str.ofString "_law_end_here",.local)],isGenerator:=false,isCoroutine:=false,more:=[]} ["_law_end_here"] 1 [none]:=⟨rfl,by decide +kernel,by decide +kernel,by decide +kernel,rfl,by decide +kernel,rfl,by decide +kernel⟩
section
variable {P:Program}{w:World}{K:PySem.W.Frag}{mg:Str->Option Value}{base:Heap}{f:Addr}{fd:FuncData}
theorem nL (F:Fn K mg "_law_joined" iW ["_law_line_here","_law_end_here"] f fd)(B:Bl mg):eX P w K mg base CX0 1 f fd ["_law_line_here","_law_end_here"] (qE K):=by
 refine F.F.ok wL (λvs H Q E h=>?_) (λcdv A outer s H vs Q E hr h=>?_)
 ·obtain⟨v,l,e,rfl,_⟩:=h;rfl
 ·obtain⟨v,l,e,rfl,hv,ok,hnp,k⟩:=h
  obtain⟨a,b,rfl,ht,us,hl,hq⟩:=i3 hv
  have hlen:=sy hq
  have hz:us.length<sizeLine:=gC (by rw[hlen];have:=ok.len;omega)
  refine⟨_,(eQ (fb (fA ud rfl B.sorted boot_sorted (eL (og (gc (fU lR (pv 0) eR (λ_ _=>rfl))) rfl lV (.tup (.cons (.name (by decide)) (.cons (.name (by decide)) .nil))) (λ_ _ _ _=>(jk (n:=2) rfl (fu (fe (i:=0) lV.nd rfl (Or.inl rfl)) (fu (fe (i:=1) lV.nd rfl (Or.inl rfl)) gN)))) (λ_ _ _ _=>(mM (fL (vF (K:=K) rfl) (pv 2) (iq (eL (pv 0) (eL (pv 1) eM))) (by with_unfolding_all rfl)))) (λ_ _ _ _=>(eY sR (eY iI (pv 0) (pv 1)) (pv 2)))) eM)))),?_⟩
  refine⟨_,rfl,a,_,_,_,rfl,rfl,ht,rfl,b,rfl,⟨us,hl⟩,λl1 n1=>sg us.length l.2 (λp=>decide (p.1=e\/p.2=e)) (λp=>V.int (p.1+p.2-e)) n1 hlen hz (λi H s hi=>(gr hl).go i H s hi) (λH s=>(gr hl).stop H s) ?_ ?_⟩
  ·intro i x d H' H2 sm y hd P1 P0 q1 q0
   obtain⟨rfl,y⟩:=y
   obtain⟨ad,p,e1,rfl,hp⟩:=qg (Das.same sm hq) (y _ (sm.seq hl))
   rw[hd]at e1;cases e1
   refine⟨ad,_,rfl,hp,rfl,_,_,rfl,_,_,rfl,rfl,_,rfl,_,rfl,_,rfl,by show 2<=sizeLine;decide,λt nt=>?_⟩
   have st:=eN (o:=.tup [.int d.1,.int d.2]) nt
   refine⟨t,_,rfl,.inr (SqT.of eO),rfl,rfl,_,rfl,?_⟩
   have ein:inV (.int e) [.int d.1,.int d.2]=decide (d.1=e\/d.2=e):=by
    rw[bT];simp[inV,eqV]
   refine fG (λh=>?_) (λh=>?_)
   ·have h:inV (.int e) [.int d.1,.int d.2]=true:=h
    rw[ein]at h
    exact⟨_,rfl,_,rfl,_,_,rfl,rfl,_,rfl,_,_,rfl,rfl,q1 _ h st⟩
   ·have h:¬inV (.int e) [.int d.1,.int d.2]=true:=h
    rw[ein]at h
    exact q0 _ (by simpa using h) st
  intro H2 s2 hl2
  have hln:((l.2.filter λp=>decide (p.1=e\/p.2=e)).map λp=>p.1+p.2-e).length<=60:=by
   have h:=oI ((l.2.filter λp=>decide (p.1=e\/p.2=e)).map λp=>p.1+p.2-e)
   rw[Gd hnp]at h
   rw[<-h];exact vT ok e
  refine⟨l1,(l.2.filter λp=>decide (p.1=e\/p.2=e)).map (λp=>p.1+p.2-e),rfl,SqL.of (by rw[hl2,aY];rfl),by omega,λp2 hp2=>?_⟩
  rw[Gd hnp]
  exact k p2 _ (s2.trans (eN hp2)) (eW.free s2 hp2) eO
theorem yY (F:Fn K mg "_law_train" jA ["_law_line_here","_law_number_here","_law_most"] f fd)(fD:Fn K mg "_law_mix" mr ["_law_cell","_law_k"] f1 fd1)(fS:Fn K mg "_law_other" ki ["_law_end_here"] f2 fd2)
  (fE:Fn K mg "_law_joined" iW ["_law_line_here","_law_end_here"] f3 fd3) (B:Bl mg):eX P w K mg base CX0 2 f fd ["_law_line_here","_law_number_here","_law_most"] (uX K):=by
 have jc:eX P w K mg base CX0 1 f1 fd1 ["_law_cell","_law_k"] yx:=rn fD B
 have kx:eX P w K mg base CX0 1 f2 fd2 ["_law_end_here"] lD:=o8 fS
 have jO:eX P w K mg base CX0 1 f3 fd3 ["_law_line_here","_law_end_here"] (qE K):=nL fE B
 refine F.F.ok kD (λvs H Q E h=>?_) (λcdv A outer s H vs Q E hr h=>?_)
 ·obtain⟨v,l,c,n,rfl,_⟩:=h;rfl
 ·obtain⟨v,l,c,n,rfl,hv,ok,hnp,hc0,h1,h40,k⟩:=h
  obtain⟨a,b,rfl,ht,us,hl,hq⟩:=i3 hv
  have o1:=ok.one
  refine⟨_,(eP (fk (i:=3) kD.nd rfl (Or.inl rfl) (fN (eL (eY gk (pv 1) (eY jm eR (fU lR (pv 0) eR (λ_ _=>rfl)))) eM)))
 (eP (jT bC rfl (sP rfl B.range (eL (eY gk (eY gg (pv 1) eR) (pv 2)) eM)) (fe (i:=4) kD.nd rfl (Or.inl rfl))
 (eP (fk (i:=5) kD.nd rfl (Or.inr rfl) (og (gc (pv 3)) rfl qj (.name (by decide)) (λ_ _ _ _=>(fe (i:=0) qj.nd rfl (Or.inl rfl))) (λ_ _ _ _=>gU) (λ_ _ _ _=>(eY gg (pv 0) eR))))
 (eP (vq (i:=6) kD.nd rfl rfl (gc (eS jO (hr.mono (by decide)) rfl fE.m fE.F.kp fE.b .nil fo (eL (pv 0) (eL (eS kx (hr.mono (by decide)) rfl fS.m fS.F.kp fS.b .nil fo (eL (fU fM (pv 3) (pY mC eR) (λ_ _=>rfl)) eM)) eM)))) rfl qi (.name (by decide)) (λ_ _ _ _=>(fe (i:=0) qi.nd rfl (Or.inl rfl))) (λ_ _ _ _=>(mM (fL (vE (K:=K) rfl hr.units) (eY gg (pv 0) eR) (pv 1) (by with_unfolding_all rfl)))) (λ_ _ _ _=>(pv 0)))
 (eQ (fF (fL (FF hr.units) (pv 6) (fN eM) (gZ _))
 (eQ (iB (jt bj b8 bZ ko (pv 3) (eL (fU fM (pv 6) (eY gk (eS jc (hr.mono (by decide)) rfl fD.m fD.F.kp fD.b .nil fo (eL (pv 1) (eL (eY iI eR (pv 4)) eM))) (fA fI rfl B.len bz (eL (pv 6) eM))) (λ_ _=>rfl)) eM)))) fc)))))
 (eQ (fb (pv 3))))),?_⟩
  refine⟨_,rfl,_,rfl,a,_,_,_,rfl,rfl,ht,rfl,_,_,rfl,rfl,.inl ⟨by decide,by decide⟩,_,_,rfl,rfl,(by show(0:Int)<2*l.1;omega),by show 1<=sizeLine;decide,λt nt=>?_⟩
  have e0:0<=c%(2*l.1):=bK _ (by omega)
  have e1:c%(2*l.1)<2*l.1:=bB _ (by omega)
  have m0:0<=c/100%n:=bK _ (by omega)
  have m1:c/100%n<n:=bB _ (by omega)
  refine⟨_,rfl,_,_,rfl,rfl,⟨by decide,by decide⟩,_,rfl,_,_,rfl,rfl,(by show(0:Int)<n;omega),_,rfl,by show -(2 ^ 62)<=c/100%n;omega,by show c/100%n<2 ^ 62;omega,tD (λi σ H3=>∃ (ns:List Int) (x4 x5 x6:Option V),σ = [some (.ref a),some (.int c),some (.int n),some (.ref t),x4,x5,x6]/\eW H H3/\H3 t=some (.lst (ns.map V.int))/\ns≠ []/\ns.length<=i+1/\pQ l ns)
   ⟨[c%(2*l.1)],none,none,none,rfl,eN nt,eO,by simp,aw _,⟨λe he=>(by rw[bL.mp he];exact⟨e0,e1⟩),by simp,λi x y hx hy=>by simp at hy⟩⟩ ?_ ?_⟩
  ·rintro i σ H3 hi ⟨ns,x4,x5,x6,rfl,S3,ht3,hne,nl,T⟩
   have hi':i+1<=39:=by
    have h:i<(c/100%n).toNat:=hi
    omega
   refine⟨_,rfl,t,rfl,⟨_,SqL.of ht3⟩,λpc npc=>nj ns (λ_=>true) (λe=>V.int (e/2)) npc (SqL.of ht3) (by rw[aa]) (by rw[aa];exact me (by omega)) ?_ ?_⟩
   ·intro j x d H' hx hd sm P1 P0 k1 k0
    rw[ah,hd]at hx
    cases hx
    refine iQ ?_
    exact⟨_,rfl,_,_,rfl,rfl,⟨by decide,by decide⟩,k1 rfl⟩
   rw[jb]
   have e1:(ns.map λe=>V.int (e/2))=(ns.map (· / 2)).map V.int:=by rw[aY];rfl
   rw[e1]
   have s4:eW H3 (upd H3 pc (.lst ((ns.map (· / 2)).map V.int))):=eN npc
   refine⟨_,rfl,_,rfl,_,rfl,t,_,_,_,rfl,rfl,SqL.of (s4 _ _ ht3),TL.nv hne,_,rfl,_,l,_,rfl,Da.same (S3.trans s4) hv,ok,hnp,λp H5 s5 hp hp2=>⟨p,rfl,⟨_,SqL.of hp2⟩,λq nq=>nj (jn l.2 (oth (ns.getLastD 0))) (λt=> !decide (t/2∈ns.map (· / 2))) (λt=>V.int t) nq (SqL.of hp2) (by rw[aa]) ?_ ?_ ?_⟩⟩
   ·rw[aa]
    exact me (by have:=vT ok (oth (ns.getLastD 0));omega)
   ·intro j x d H' hx hd sm P1 P0 k1 k0
    rw[ah,hd]at hx
    cases hx
    have hD:Da K H' (.list ((ns.map (· / 2)).map .int)) (.ref pc):=Da.same (s5.trans sm) (iZ eO)
    refine⟨_,rfl,_,_,rfl,rfl,⟨by decide,by decide⟩,_,rfl,_,.int (d/2),hD,gj.mpr rfl,sV _,qJ _,_,rfl,?_⟩
    rw[yo]
    exact fG (λh=>⟨_,rfl,k1 h⟩) (λh=>k0 (by simpa using h))
   have efr:((jn l.2 (oth (ns.getLastD 0))).filter λt=> !decide (t/2∈ns.map (· / 2)))=fr l ns (oth (ns.getLastD 0)):=rfl
   rw[efr]
   have S6:eW H3 (upd H5 q (.lst ((fr l ns (oth (ns.getLastD 0))).map V.int))):=(s4.trans s5).trans (eN nq)
   refine⟨_,rfl,aV _,λe ne=>?_⟩
   have s7:=eN (o:=.lst []) ne
   have hq7:=s7 _ _ (eO (H:=H5) (a:=q) (o:=.lst ((fr l ns (oth (ns.getLastD 0))).map V.int)))
   refine⟨dI (fr l ns (oth (ns.getLastD 0))),.list [],iZ hq7,iZ (ns:=[]) eO,Ar _,Hh,_,rfl,?_⟩
   have ee:PyData.eqv (dI (fr l ns (oth (ns.getLastD 0)))) (.list [])=((fr l ns (oth (ns.getLastD 0))).map PyData.int).isEmpty:=zu _
   rw[ee]
   refine fG (λhem=>?_) (λ_=>?_)
   ·have Hu:0<(fr l ns (oth (ns.getLastD 0))).length:=by
     cases hh:fr l ns (oth (ns.getLastD 0))with
     |nil=>rw[hh]at hem;exact absurd hem (by decide)
     |cons x r=>simp
    refine⟨_,rfl,.inl ⟨rfl,_,SqL.of (s7 _ _ (S6 _ _ ht3))⟩,_,rfl,_,rfl,_,rfl,_,_,rfl,rfl,c,_,rfl,by show(0:Int)<=3+(0+(i:Int));omega,by show 3+(0+(i:Int))<=1000;omega,λm m0 m1=>?_⟩
    have r0:0<=m%((fr l ns (oth (ns.getLastD 0))).length:Int):=bK _ (by omega)
    have r1:m%((fr l ns (oth (ns.getLastD 0))).length:Int)<((fr l ns (oth (ns.getLastD 0))).length:Int):=bB _ (by omega)
    obtain⟨x,_,uB,hat⟩:=JP r0 r1
    refine⟨_,rfl,q,_,rfl,.inl (SqL.of hq7),_,_,rfl,rfl,?_,q,_,_,V.int x,rfl,rfl,SqL.of hq7,?_,t,_,_,rfl,rfl,s7 _ _ (S6 _ _ ht3),?_,?_⟩
    ·show(0:Int)<(((fr l ns (oth (ns.getLastD 0))).map V.int).length:Int)
     rw[aa];omega
    ·show atI _ (m%(((fr l ns (oth (ns.getLastD 0))).map V.int).length:Int))=_
     rw[aa];exact hat
    ·rw[aa];exact me (by omega)
    refine⟨ns ++ [x],_,_,_,rfl,eW.upd (S3.trans (S6.trans s7)) nt,?_,by simp,by rw[aG];show ns.length+1<=_;omega,T.snoc ok hne uB⟩
    rw[eO,aC];rfl
   ·exact⟨ns,_,_,_,rfl,S3.trans (S6.trans s7),s7 _ _ (S6 _ _ ht3),hne,by omega,T⟩
  rintro σ H3 ⟨ns,x4,x5,x6,rfl,S3,ht3,hne,nl,T⟩
  refine⟨_,rfl,k t ns _ S3 nt ht3 hne ?_ T⟩
  have h:ns.length<=(c/100%n).toNat+1:=nl
  omega
theorem yZ (F:Fn K mg "_law_moves" lG ["_law_line_here","_law_train_here"] f fd)(fS:Fn K mg "_law_other" ki ["_law_end_here"] f1 fd1)(fE:Fn K mg "_law_joined" iW ["_law_line_here","_law_end_here"] f2 fd2)
  (B:Bl mg):eX P w K mg base CX0 2 f fd ["_law_line_here","_law_train_here"] (zU K):=by
 have kx:eX P w K mg base CX0 1 f1 fd1 ["_law_end_here"] lD:=o8 fS
 have jO:eX P w K mg base CX0 1 f2 fd2 ["_law_line_here","_law_end_here"] (qE K):=nL fE B
 refine F.F.ok kE (λvs H Q E h=>?_) (λcdv A outer s H vs Q E hr h=>?_)
 ·obtain⟨v,u,l,ns,rfl,_⟩:=h;rfl
 ·obtain⟨v,u,l,ns,rfl,hv,hu,ok,hnp,hne,hz,k⟩:=h
  obtain⟨a,rfl,hS⟩:=iJ.mp hu
  refine⟨_,(eP (vq (i:=3) kE.nd rfl rfl (gc (pv 1)) rfl qk (.name (by decide)) (λ_ _ _ _=>(fe (i:=0) qk.nd rfl (Or.inl rfl))) (λ_ _ _ _=>gU) (λ_ _ _ _=>(eY gg (pv 0) eR)))
 (eP (fk (i:=4) kE.nd rfl (Or.inl rfl) (fN eM))
 (eP (jT bC rfl (gc (eS jO (hr.mono (by decide)) rfl fE.m fE.F.kp fE.b .nil fo (eL (pv 0) (eL (eS kx (hr.mono (by decide)) rfl fS.m fS.F.kp fS.b .nil fo (eL (fU fM (pv 1) (pY mC eR) (λ_ _=>rfl)) eM)) eM)))) (fe (i:=2) kE.nd rfl (Or.inl rfl))
 (eQ (fF (fL (kW hr.units) (eY gg (pv 2) eR) (pv 3) (by with_unfolding_all rfl))
 (eQ (iB (jt bj b8 bZ ko (pv 4) (eL (iq (eL (iq (eL eU (eL (pv 2) eM))) (eL (eY iP (gF iU (pv 1) (gX eR) gY) (fN (eL (pv 2) eM))) eM))) eM)))) fc)))
 (eP (jT bC rfl (gc (eS jO (hr.mono (by decide)) rfl fE.m fE.F.kp fE.b .nil fo (eL (pv 0) (eL (fU fM (pv 1) eR (λ_ _=>rfl)) eM)))) (fe (i:=2) kE.nd rfl (Or.inl rfl))
 (eQ (fF (fL (kW hr.units) (eY gg (pv 2) eR) (pv 3) (by with_unfolding_all rfl))
 (eQ (iB (jt bj b8 bZ ko (pv 4) (eL (iq (eL (iq (eL eU (eL (pv 2) eM))) (eL (eY iP (fN (eL (eS kx (hr.mono (by decide)) rfl fS.m fS.F.kp fS.b .nil fo (eL (pv 2) eM)) eM)) (gF iU (pv 1) gY (gX (pY mC eR)))) eM))) eM)))) fc)))
 (eQ (fb (pv 4))))))),?_⟩
  refine⟨_,rfl,a,rfl,⟨_,hS⟩,λpc n0=>nj ns (λ_=>true) (λe=>V.int (e/2)) n0 hS (by rw[aa]) (by rw[aa];exact gC (by omega)) ?_ ?_⟩
  ·intro i x d H' hx hd sm P1 P0 k1 k0
   rw[ah,hd]at hx
   cases hx
   refine iQ ?_
   exact⟨_,rfl,_,_,rfl,rfl,⟨by decide,by decide⟩,k1 rfl⟩
  rw[jb]
  have e1:(ns.map λe=>V.int (e/2))=(ns.map (· / 2)).map V.int:=by rw[aY];rfl
  rw[e1]
  have s0:eW H (upd H pc (.lst ((ns.map (· / 2)).map V.int))):=eN n0
  have hpc:(upd H pc (.lst ((ns.map (· / 2)).map V.int))) pc=some (.lst ((ns.map (· / 2)).map V.int)):=eO
  generalize hH0:upd H pc (.lst ((ns.map (· / 2)).map V.int))=H0 at s0 hpc
  refine⟨aV _,λt ht=>?_⟩
  have s1:eW H0 (upd H0 t (.lst [])):=eN ht
  have S1:eW H (upd H0 t (.lst [])):=s0.trans s1
  refine⟨_,rfl,_,rfl,_,rfl,a,_,_,_,rfl,rfl,S1.seq hS,TL.nv hne,_,rfl,v,l,_,rfl,Da.same S1 hv,ok,hnp,λp H2 s2 hp hp2=>?_⟩
  have nt:p≠t:=(ft eO hp).symm
  have QW:=vT ok (oth (ns.getLastD 0))
  have QX:=vT ok (ns.headD 0)
  refine⟨p,rfl,⟨_,SqL.of hp2⟩,jE (K:=K) (a:=p) (xs:=(jn l.2 (oth (ns.getLastD 0))).map V.int) (λi σ H3=>∃ (vs:List V) (x:Option V),σ = [some v,some (.ref a),x,some (.ref pc),some (.ref t)]/\eW H0 H3/\H3 p=some (.lst ((jn l.2 (oth (ns.getLastD 0))).map V.int))/\H3 t=some (.lst vs)/\
    Dgs (Lf H0 H3 t) (SqT K H3) (((((jn l.2 (oth (ns.getLastD 0))).take i).filter λt=> !decide (t/2∈ns.map (· / 2))).map (onM ns)).map dMv) vs)
   ⟨[],none,rfl,s1.trans s2,hp2,s2 _ _ eO,gA.mpr rfl⟩ (λi σ H3 _ ⟨_,_,_,_,h,_⟩=>SqL.of h) ?_ ?_⟩
  ·rintro i y σ H3 hi ⟨vs,x,rfl,S3,hp3,ht3,D⟩
   rw[ah]at hi
   cases q:(jn l.2 (oth (ns.getLastD 0)))[i]? with
   |none=>rw[q]at hi;cases hi
   |some e=>
    rw[q]at hi
    cases hi
    have hil:i<(jn l.2 (oth (ns.getLastD 0))).length:=(af.mp q).1
    have st:=take_succ_filter (λt=> !decide (t/2∈ns.map (· / 2))) _ i e q
    refine⟨_,rfl,_,_,rfl,rfl,⟨by decide,by decide⟩,_,rfl,_,.int (e/2),iZ (S3 _ _ hpc),gj.mpr rfl,sV _,qJ _,_,rfl,?_⟩
    rw[yo]
    refine fG (c:=(!decide (e/2∈ns.map (· / 2)))=true) (λhc=>?_) (λhc=>?_)
    ·refine⟨_,rfl,.inl ⟨rfl,_,SqL.of ht3⟩,_,rfl,by show 2<=sizeLine;decide,λp1 n1=>?_⟩
     refine⟨_,rfl,_,rfl,a,_,rfl,((s0.trans S3).trans (eN n1)).seq hS,λp2 n2=>?_⟩
     refine⟨_,rfl,by show 1<=sizeLine;decide,λp3 n3=>?_⟩
     rw[sA]at n3 ⊢
     refine⟨p2,p3,_,_,rfl,rfl,by rw[fw (ft eO n3),eO],eO,?_,λp4 n4=>?_⟩
     ·refine cu (gC ?_)
      rw[aa,bp]
      show ns.length-1+1<=1000
      omega
     refine⟨by show 2<=sizeLine;decide,λp5 n5=>?_⟩
     have S5:eW H3 _:=(eN n1).trans ((eN n2).trans ((eN n3).trans ((eN n4).trans (eN (o:=.tup [.ref p1,.ref p4]) n5))))
     have lv:vs.length<=60:=by
      rw[D.length,aa,aa]
      refine aT (bD _ _) ?_
      rw[aI];omega
     refine⟨t,vs,_,rfl,rfl,S5 _ _ ht3,gC (by omega),?_⟩
     have g1:eW (upd H3 p1 (.tup [.str "on",.int e])) _:=(eN n2).trans ((eN n3).trans ((eN n4).trans (eN (o:=.tup [.ref p1,.ref p4]) n5)))
     obtain⟨r1,r2,r3⟩:=qH (w:= "on") (e:=e) (xs:=ns.drop 1 ++ [e]) S3 ht ht3 D S5 (g1 _ _ eO) (eW.free ((eN n1).trans ((eN n2).trans (eN n3))) n4) (by rw[fw (ft eO n5),eO,aC];rfl) eO
     refine⟨_,_,rfl,r1,?_,r2,?_⟩
     ·rw[fw nt];exact S5 _ _ hp3
     ·rw[st,av hc,aC];exact r3
    ·refine⟨vs,_,rfl,S3,hp3,ht3,?_⟩
     rw[st,ak hc,bS];exact D
  rintro σ H3 ⟨vs,x,rfl,S3,hp3,ht3,D⟩
  rw[aa,bo]at D
  refine⟨_,rfl,_,rfl,a,_,_,_,rfl,rfl,(s0.trans S3).seq hS,A9 hne,v,l,_,rfl,Da.same (s0.trans S3) hv,ok,hnp,λp' H4 s4 hp' hp4=>?_⟩
  have nt':p'≠t:=(ft ht3 hp').symm
  have D4:Dgs (Lf H0 H4 t) (SqT K H4) (((fr l ns (oth (ns.getLastD 0))).map (onM ns)).map dMv) vs:=Dgs.mono (λa us ⟨h1,h2,h3⟩=>⟨s4 _ _ h1,h2,h3⟩) (λa us h=>gv s4 h) D
  have Xj:=wc ok ns (oth (ns.getLastD 0))
  refine⟨p',rfl,⟨_,SqL.of hp4⟩,jE (K:=K) (a:=p') (xs:=(jn l.2 (ns.headD 0)).map V.int) (λi σ H3=>∃ (vs:List V) (x:Option V),σ = [some v,some (.ref a),x,some (.ref pc),some (.ref t)]/\eW H0 H3/\H3 p'=some (.lst ((jn l.2 (ns.headD 0)).map V.int))/\H3 t=some (.lst vs)/\
    Dgs (Lf H0 H3 t) (SqT K H3) (((fr l ns (oth (ns.getLastD 0))).map (onM ns)++(((jn l.2 (ns.headD 0)).take i).filter λt=> !decide (t/2∈ns.map (· / 2))).map (wq ns)).map dMv) vs)
   ⟨vs,x,rfl,S3.trans s4,hp4,s4 _ _ ht3,by simpa using D4⟩ (λi σ H3 _ ⟨_,_,_,_,h,_⟩=>SqL.of h) ?_ ?_⟩
  ·rintro i y σ H3 hi ⟨vs,x,rfl,S3,hp3,ht3,D⟩
   rw[ah]at hi
   cases q:(jn l.2 (ns.headD 0))[i]? with
   |none=>rw[q]at hi;cases hi
   |some e=>
    rw[q]at hi
    cases hi
    have hil:i<(jn l.2 (ns.headD 0)).length:=(af.mp q).1
    have st:=take_succ_filter (λt=> !decide (t/2∈ns.map (· / 2))) _ i e q
    refine⟨_,rfl,_,_,rfl,rfl,⟨by decide,by decide⟩,_,rfl,_,.int (e/2),iZ (S3 _ _ hpc),gj.mpr rfl,sV _,qJ _,_,rfl,?_⟩
    rw[yo]
    refine fG (c:=(!decide (e/2∈ns.map (· / 2)))=true) (λhc=>?_) (λhc=>?_)
    ·refine⟨_,rfl,.inl ⟨rfl,_,SqL.of ht3⟩,_,rfl,by show 2<=sizeLine;decide,λp1 n1=>?_⟩
     refine⟨_,rfl,e,rfl,by show 1<=sizeLine;decide,λp2 n2=>?_⟩
     refine⟨_,rfl,_,rfl,_,rfl,a,_,rfl,((s0.trans S3).trans ((eN n1).trans (eN n2))).seq hS,λp3 n3=>?_⟩
     have ec:nO (ns.map V.int) none (some (-1))=ns.dropLast.map V.int:=AZ ns
     refine⟨p2,p3,_,_,rfl,rfl,by rw[fw (ft eO n3),eO],eO,?_,λp4 n4=>?_⟩
     ·refine cu (gC ?_)
      show 1+(nO (ns.map V.int) none (some (-1))).length<=1000
      rw[ec,aa,bM]
      omega
     refine⟨by show 2<=sizeLine;decide,λp5 n5=>?_⟩
     have S5:eW H3 _:=(eN n1).trans ((eN n2).trans ((eN n3).trans ((eN n4).trans (eN (o:=.tup [.ref p1,.ref p4]) n5))))
     have lv:vs.length<=120:=by
      rw[D.length,aa,aG,aa,aa]
      have:=bD (λt=> !decide (t/2∈ns.map (· / 2))) ((jn l.2 (ns.headD 0)).take i)
      rw[aI]at this
      omega
     refine⟨t,vs,_,rfl,rfl,S5 _ _ ht3,gC (by omega),?_⟩
     have g1:eW (upd H3 p1 (.tup [.str "back",.int e])) _:=(eN n2).trans ((eN n3).trans ((eN n4).trans (eN (o:=.tup [.ref p1,.ref p4]) n5)))
     obtain⟨r1,r2,r3⟩:=qH (w:= "back") (e:=e) (xs:=oth e::ns.dropLast) S3 ht ht3 D S5 (g1 _ _ eO) (eW.free ((eN n1).trans ((eN n2).trans (eN n3))) n4) (by
      rw[fw (ft eO n5),eO]
      show some (HO.lst ([V.int (oth e)]++nO (ns.map V.int) none (some (-1))))=_
      rw[ec];rfl) eO
     refine⟨_,_,rfl,r1,?_,r2,?_⟩
     ·rw[fw nt'];exact S5 _ _ hp3
     ·rw[st,av hc,aC (f:=wq ns),<-cN];exact r3
    ·refine⟨vs,_,rfl,S3,hp3,ht3,?_⟩
     rw[st,ak hc,bS];exact D
  rintro σ H3 ⟨vs,x,rfl,S3,hp3,ht3,D⟩
  rw[aa,bo]at D
  exact⟨_,rfl,k t vs H3 (s0.trans S3) (eW.free s0 ht) ht3 (Dgs.mono (λa us ⟨h1,h2,h3⟩=>⟨h1,eW.free s0 h2,h3⟩) (λ_ _ h=>h) D)⟩
end
noncomputable def rh (K:PySem.W.Frag):Sp:=λvs H Q _=>∃ (v:V) (l:Ln) (e:Int),vs = [v,.int e]/\Da K H (dL l) v/\gI l/\qN H (jn l.2 e) Q
noncomputable def zT (K:PySem.W.Frag):Sp:=λvs H Q _=>∃ (v:V) (ns:List Int),vs = [v]/\Da K H (dI ns) v/\ns.length<=1000/\qN H (ns.reverse.map oth) Q
noncomputable def Ce (K:PySem.W.Frag):Sp:=λvs H Q _=>∃ (v u:V) (l:Int×List (Int×Int)) (ns:List Int) (e:Int),vs = [v,u,.int e]/\Da K H (dL l) v/\Da K H (dI ns) u/\gI l/\ns.length<=1000/\qN H (fr l ns e) Q
noncomputable def sM (K:PySem.W.Frag):Sp:=λvs H Q _=>∃ (v u:V) (l:Ln) (ns:List Int),vs = [v,u]/\Da K H (dL l) v/\Da K H (dI ns) u/\gI l/\ns≠ []/\ns.length<=900/\Bc K H (mvs l ns) Q
noncomputable abbrev mL:Stmt:=top 17
theorem qG:fh ["line","end","joints","above","below"] ["line","end"] (eT mL):=⟨rfl,rfl,rfl,by decide +kernel,rfl,by decide +kernel,by decide +kernel⟩
theorem qm:gp (eT mL) ["line","end","joints","above","below"] {kind:=.function,names:=[(Str.ofString ".0",.local),(Str.ofString "low",.local),(Str.ofString "high",.local),(Str.ofString "end",.free)],isGenerator:=false,isCoroutine:=false,more:=[]} ["low","high","end"] 2 [none,none,some 1]:=⟨rfl,by decide +kernel,by decide +kernel,by decide +kernel,rfl,by decide +kernel,rfl,by decide +kernel⟩
theorem ql:gp (eT mL) ["line","end","joints","above","below"] {kind:=.function,names:=[(Str.ofString ".0",.local),(Str.ofString "low",.local),(Str.ofString "high",.local),(Str.ofString "end",.free)],isGenerator:=false,isCoroutine:=false,more:=[]} ["low","high","end"] 2 [none,none,some 1]:=⟨rfl,by decide +kernel,by decide +kernel,by decide +kernel,rfl,by decide +kernel,rfl,by decide +kernel⟩
noncomputable abbrev pT:Stmt:=top 20
theorem DC:fh ["train"] ["train"] (eT pT):=⟨rfl,rfl,rfl,by decide +kernel,rfl,by decide +kernel,by decide +kernel⟩
theorem uc:gp (eT pT) ["train"] {kind:=.function,names:=[(Str.ofString ".0",.local),(Str.ofString "end",.local),(Str.ofString "other_end",.globalImplicit)],isGenerator:=false,isCoroutine:=false,more:=[]} ["end"] 1 [none]:=⟨rfl,by decide +kernel,by decide +kernel,by decide +kernel,rfl,by decide +kernel,rfl,by decide +kernel⟩
noncomputable abbrev kj:Stmt:=top 21
theorem rQ:fh ["line","train","end","pieces"] ["line","train","end"] (eT kj):=⟨rfl,rfl,rfl,by decide +kernel,rfl,by decide +kernel,by decide +kernel⟩
theorem qr:gp (eT kj) ["line","train","end","pieces"] {kind:=.function,names:=[(Str.ofString ".0",.local),(Str.ofString "own",.local),(Str.ofString "piece_of",.globalImplicit)],isGenerator:=false,isCoroutine:=false,more:=[]} ["own"] 1 [none]:=⟨rfl,by decide +kernel,by decide +kernel,by decide +kernel,rfl,by decide +kernel,rfl,by decide +kernel⟩
theorem qp:gp (eT kj) ["line","train","end","pieces"] {kind:=.function,names:=[(Str.ofString ".0",.local),(Str.ofString "there",.local),(Str.ofString "piece_of",.globalImplicit),(Str.ofString "pieces",.free)],isGenerator:=false,isCoroutine:=false,more:=[]} ["there","pieces"] 1 [none,some 3]:=⟨rfl,by decide +kernel,by decide +kernel,by decide +kernel,rfl,by decide +kernel,rfl,by decide +kernel⟩
noncomputable abbrev mK:Stmt:=top 22
theorem m8:fh ["line","train","told","end"] ["line","train"] (eT mK):=⟨rfl,rfl,rfl,by decide +kernel,rfl,by decide +kernel,by decide +kernel⟩
section
variable {P:Program}{w:World}{K:PySem.W.Frag}{mg:Str->Option Value}{base:Heap}{f:Addr}{fd:FuncData}{D c1 c2 c3 c4 c5 c6 c7:Addr}{t1 t2 t3 t4:Tok}
theorem xU (F:Fn K mg "joined" mL ["line","end"] f fd)(B:Bl mg):eX P w K mg base CX0 1 f fd ["line","end"] (rh K):=by
 refine F.F.ok qG (λvs H Q E h=>?_) (λcdv A outer s H vs Q E hr h=>?_)
 ·obtain⟨v,l,e,rfl,_⟩:=h;rfl
 ·obtain⟨v,l,e,rfl,hv,ok,k⟩:=h
  obtain⟨a,b,rfl,ht,us,hl,hq⟩:=i3 hv
  have hlen:=sy hq
  have hz:us.length<sizeLine:=gC (by rw[hlen];have:=ok.len;omega)
  refine⟨_,(eP (fk (i:=2) qG.nd rfl (Or.inl rfl) (fU lR (pv 0) eR (λ_ _=>rfl)))
 (eP (vq (i:=3) qG.nd rfl rfl (gc (pv 2)) rfl qm (.tup (.cons (.name (by decide)) (.cons (.name (by decide)) .nil))) (λ_ _ _ _=>(jk (n:=2) rfl (fu (fe (i:=0) qm.nd rfl (Or.inl rfl)) (fu (fe (i:=1) qm.nd rfl (Or.inl rfl)) gN)))) (λ_ _ _ _=>(mM (fC (mO (pv 0) (pv 2))))) (λ_ _ _ _=>(pv 1)))
 (eP (vq (i:=4) qG.nd rfl rfl (gc (pv 2)) rfl ql (.tup (.cons (.name (by decide)) (.cons (.name (by decide)) .nil))) (λ_ _ _ _=>(jk (n:=2) rfl (fu (fe (i:=0) ql.nd rfl (Or.inl rfl)) (fu (fe (i:=1) ql.nd rfl (Or.inl rfl)) gN)))) (λ_ _ _ _=>(mM (fC (mO (pv 1) (pv 2))))) (λ_ _ _ _=>(pv 0)))
 (eQ (fb (fA ud rfl B.sorted boot_sorted (eL (eY iP (pv 4) (pv 3)) eM))))))),?_⟩
  refine⟨_,rfl,a,_,_,_,rfl,rfl,ht,rfl,?_⟩
  refine⟨_,rfl,b,rfl,⟨us,hl⟩,λl1 n1=>nj l.2 (λp=>decide (p.1=e)) (λp=>V.int p.2) n1 hl hlen hz ?_ ?_⟩
  ·intro i x d H' hx hd sm P1 P0 k1 k0
   obtain⟨ad,p,e1,rfl,hp⟩:=qg (Das.same sm hq) hx
   rw[hd]at e1;cases e1
   refine⟨ad,_,rfl,hp,rfl,_,_,rfl,_,_,rfl,rfl,_,rfl,_,rfl,_,_,rfl,rfl,_,rfl,fG (λh=>⟨_,rfl,k1 h⟩) (λh=>k0 (by simpa using h))⟩
  have s1:eW H (upd H l1 (.lst (above l.2 e |>.map V.int))):=eN n1
  have e1:((l.2.filter λp=>decide (p.1=e)).map λp=>V.int p.2)=(above l.2 e).map V.int:=by unfold above;rw[aY];rfl
  rw[e1]
  refine⟨_,rfl,b,rfl,⟨us,s1.seq hl⟩,λl2 n2=>nj l.2 (λp=>decide (p.2=e)) (λp=>V.int p.1) n2 (s1.seq hl) hlen hz ?_ ?_⟩
  ·intro i x d H' hx hd sm P1 P0 k1 k0
   obtain⟨ad,p,e1,rfl,hp⟩:=qg (Das.same (s1.trans sm) hq) hx
   rw[hd]at e1;cases e1
   refine⟨ad,_,rfl,hp,rfl,_,_,rfl,_,_,rfl,rfl,_,rfl,_,rfl,_,_,rfl,rfl,_,rfl,fG (λh=>⟨_,rfl,k1 h⟩) (λh=>k0 (by simpa using h))⟩
  have e2:((l.2.filter λp=>decide (p.2=e)).map λp=>V.int p.1)=(below l.2 e).map V.int:=by unfold below;rw[aY];rfl
  rw[e2]
  have g1:(upd (upd H l1 (.lst (above l.2 e |>.map V.int))) l2 (.lst (below l.2 e |>.map V.int))) l1=some (.lst (above l.2 e |>.map V.int)):=by
   rw[fw (ft eO n2),eO]
  have hb:=yn ok e
  have s2:eW H (upd (upd H l1 (.lst (above l.2 e |>.map V.int))) l2 (.lst (below l.2 e |>.map V.int))):=s1.trans (eN n2)
  refine⟨_,rfl,_,rfl,l2,l1,_,_,rfl,rfl,eO,g1,cu (gC (by rw[aa,aa];omega)),λp hp=>?_⟩
  refine⟨p,below l.2 e++above l.2 e,rfl,SqL.of (by rw[eO,aC]),(by rw[aG];omega),λp2 hp2=>?_⟩
  refine k p2 _ (s2.trans ((eN hp).trans (eN hp2))) (eW.free (s2.trans (eN hp)) hp2) eO
theorem DN (F:Fn K mg "turned" pT ["train"] f fd)(B:Bl mg)(fR:Fn K mg "other_end" kh ["end"] f1 fd1):eX P w K mg base CX0 2 f fd ["train"] (zT K):=by
 have ku:eX P w K mg base CX0 1 f1 fd1 ["end"] lD:=oZ fR
 refine F.F.ok DC (λvs H Q E h=>?_) (λcdv A outer s H vs Q E hr h=>?_)
 ·obtain⟨v,l,rfl,_⟩:=h;rfl
 ·obtain⟨v,ns,rfl,hv,hz,k⟩:=h
  obtain⟨a,rfl,hS⟩:=iJ.mp hv
  refine⟨_,(eQ (fb (og (IM rfl B.reversed (eL (pv 0) eM)) rfl uc (.name (by decide)) (λ_ _ _ _=>(fe (i:=0) uc.nd rfl (Or.inl rfl))) (λ_ _ _ _=>gU) (λ_ _ _ _=>(eS ku (hr.mono (by decide)) rfl fR.m fR.F.kp fR.b .nil fo (eL (pv 0) eM)))))),?_⟩
  refine⟨_,rfl,a,_,rfl,hS,λl1 n1=>sf (Jo hS) ns.reverse (λ_=>true) (λe=>V.int (oth e)) n1 (by rw[aa,dD]) (by rw[aa];exact gC hz) ?_ ?_⟩
  ·intro i x d H' hx hd sm P1 P0 k1 k0
   rw[<-List.map_reverse,ah,hd]at hx
   cases hx
   refine iQ ?_
   exact⟨_,rfl,d,rfl,k1 rfl⟩
  rw[jb]
  refine k l1 _ (eN n1) n1 ?_
  rw[eO,aY];rfl
theorem za (F:Fn K mg "free_ends" kj ["line","train","end"] f fd)(B:Bl mg)(fB:Fn K mg "piece_of" j8 ["end"] f1 fd1)(i8:Fn K mg "joined" mL ["line","end"] f2 fd2):
  eX P w K mg base CX0 2 f fd ["line","train","end"] (Ce K):=by
 have i4:eX P w K mg base CX0 1 f1 fd1 ["end"] rK:=ni fB
 have wx:eX P w K mg base CX0 1 f2 fd2 ["line","end"] (rh K):=xU i8 B
 refine F.F.ok rQ (λvs H Q E h=>?_) (λcdv A outer s H vs Q E hr h=>?_)
 ·obtain⟨v,u,l,ns,e,rfl,_⟩:=h;rfl
 ·obtain⟨v,u,l,ns,e,rfl,hv,hu,ok,hz,k⟩:=h
  obtain⟨a,rfl,hS⟩:=iJ.mp hu
  refine⟨_,(eP (fk (i:=3) rQ.nd rfl (Or.inr rfl) (og (gc (pv 1)) rfl qr (.name (by decide)) (λ_ _ _ _=>(fe (i:=0) qr.nd rfl (Or.inl rfl))) (λ_ _ _ _=>gU) (λ_ _ _ _=>(eS i4 (hr.mono (by decide)) rfl fB.m fB.F.kp fB.b .nil fo (eL (pv 0) eM)))))
 (eQ (fb (og (gc (eS wx (hr.mono (by decide)) rfl i8.m i8.F.kp i8.b .nil fo (eL (pv 0) (eL (pv 2) eM)))) rfl qp (.name (by decide)) (λ_ _ _ _=>(fe (i:=0) qp.nd rfl (Or.inl rfl))) (λ_ _ _ _=>(mM (fL (vE (K:=K) rfl hr.units) (eS i4 (hr.mono (by decide)) rfl fB.m fB.F.kp fB.b .nil fo (eL (pv 0) eM)) (pv 1) (by with_unfolding_all rfl)))) (λ_ _ _ _=>(pv 0)))))),?_⟩
  refine⟨_,rfl,a,rfl,⟨_,hS⟩,λl1 n1=>nj ns (λ_=>true) (λe=>V.int (e/2)) n1 hS (by rw[aa]) (by rw[aa];exact gC hz) ?_ ?_⟩
  ·intro i x d H' hx hd sm P1 P0 k1 k0
   rw[ah,hd]at hx
   cases hx
   refine iQ ?_
   exact⟨_,rfl,d,rfl,k1 rfl⟩
  rw[jb]
  have e1:(ns.map λe=>V.int (e/2))=(ns.map (· / 2)).map V.int:=by rw[aY];rfl
  rw[e1]
  have s1:eW H (upd H l1 (.lst ((ns.map (· / 2)).map V.int))):=eN n1
  refine⟨_,rfl,_,rfl,v,l,e,rfl,Da.same s1 hv,ok,λp H2 s2 hp hp2=>⟨p,rfl,⟨_,SqL.of hp2⟩,λl2 n2=>nj (jn l.2 e) (λt=> !decide (t/2∈ns.map (· / 2))) (λt=>V.int t) n2 (SqL.of hp2) (by rw[aa]) ?_ ?_ ?_⟩⟩
  ·rw[aa]
   refine gC ?_
   unfold jn
   rw[oI,aG]
   have:=yn ok e
   omega
  ·intro i x d H' hx hd sm P1 P0 k1 k0
   rw[ah,hd]at hx
   cases hx
   have hD:Da K H' (.list ((ns.map (· / 2)).map .int)) (.ref l1):=Da.same (s2.trans sm) (iZ eO)
   refine⟨_,rfl,d,rfl,_,rfl,_,.int (d/2),hD,gj.mpr rfl,sV _,qJ _,_,rfl,?_⟩
   rw[yo]
   exact fG (λh=>⟨_,rfl,k1 h⟩) (λh=>k0 (by simpa using h))
  exact k l2 _ ((s1.trans s2).trans (eN n2)) (eW.free (s1.trans s2) n2) eO
theorem Al (F:Fn K mg "moves_of" mK ["line","train"] f fd)(fR:Fn K mg "other_end" kh ["end"] f1 fd1)(iF:Fn K mg "free_ends" kj ["line","train","end"] f2 fd2)
  (nA:eX P w K mg base CX0 2 f2 fd2 ["line","train","end"] (Ce K)):eX P w K mg base CX0 3 f fd ["line","train"] (sM K):=by
 have ku:eX P w K mg base CX0 1 f1 fd1 ["end"] lD:=oZ fR
 refine F.F.ok m8 (λvs H Q E h=>?_) (λcdv A outer s H vs Q E hr h=>?_)
 ·obtain⟨v,u,l,ns,rfl,_⟩:=h;rfl
 ·obtain⟨v,u,l,ns,rfl,hv,hu,ok,hne,hz,k⟩:=h
  obtain⟨a,rfl,hS⟩:=iJ.mp hu
  refine⟨_,(eP (fk (i:=2) m8.nd rfl (Or.inl rfl) (fN eM))
 (eP (jT bC rfl (gc (eS nA (hr.mono (by decide)) rfl iF.m iF.F.kp iF.b .nil fo (eL (pv 0) (eL (pv 1) (eL (eS ku (hr.mono (by decide)) rfl fR.m fR.F.kp fR.b .nil fo (eL (fU fM (pv 1) (pY mC eR) (λ_ _=>rfl)) eM)) eM))))) (fe (i:=3) m8.nd rfl (Or.inl rfl))
 (eQ (iB (jt bj b8 bZ ko (pv 2) (eL (iq (eL (iq (eL eU (eL (pv 3) eM))) (eL (eY iP (gF iU (pv 1) (gX eR) gY) (fN (eL (pv 3) eM))) eM))) eM)))))
 (eP (jT bC rfl (gc (eS nA (hr.mono (by decide)) rfl iF.m iF.F.kp iF.b .nil fo (eL (pv 0) (eL (pv 1) (eL (fU fM (pv 1) eR (λ_ _=>rfl)) eM))))) (fe (i:=3) m8.nd rfl (Or.inl rfl))
 (eQ (iB (jt bj b8 bZ ko (pv 2) (eL (iq (eL (iq (eL eU (eL (pv 3) eM))) (eL (eY iP (fN (eL (eS ku (hr.mono (by decide)) rfl fR.m fR.F.kp fR.b .nil fo (eL (pv 3) eM)) eM)) (gF iU (pv 1) gY (gX (pY mC eR)))) eM))) eM)))))
 (eQ (fb (pv 2)))))),?_⟩
  refine⟨aV _,λt ht=>?_⟩
  have s1:eW H (upd H t (.lst [])):=eN ht
  refine⟨_,rfl,_,rfl,_,rfl,_,rfl,a,_,_,_,rfl,rfl,s1.seq hS,TL.nv hne,_,rfl,v,_,l,ns,_,rfl,Da.same s1 hv,Da.same s1 hu,ok,by omega,λp H2 s2 hp hp2=>?_⟩
  have nt:p≠t:=(ft eO hp).symm
  have QW:=wc ok ns (oth (ns.getLastD 0))
  have QX:=wc ok ns (ns.headD 0)
  refine⟨p,rfl,⟨_,SqL.of hp2⟩,jE (K:=K) (a:=p) (xs:=(fr l ns (oth (ns.getLastD 0))).map V.int) (λi σ H3=>∃ (vs:List V) (x:Option V),σ = [some v,some (.ref a),some (.ref t),x]/\eW H H3/\H3 p=some (.lst ((fr l ns (oth (ns.getLastD 0))).map V.int))/\H3 t=some (.lst vs)/\
    Dgs (Lf H H3 t) (SqT K H3) ((((fr l ns (oth (ns.getLastD 0))).take i).map (onM ns)).map dMv) vs)
   ⟨[],none,rfl,s1.trans s2,hp2,s2 _ _ eO,gA.mpr rfl⟩ (λi σ H3 _ ⟨_,_,_,_,h,_⟩=>SqL.of h) ?_ ?_⟩
  ·rintro i y σ H3 hi ⟨vs,x,rfl,S3,hp3,ht3,D⟩
   rw[ah]at hi
   cases q:(fr l ns (oth (ns.getLastD 0)))[i]? with
   |none=>rw[q]at hi;cases hi
   |some e=>
    rw[q]at hi
    cases hi
    have hil:i<(fr l ns (oth (ns.getLastD 0))).length:=(af.mp q).1
    refine⟨_,rfl,.inl ⟨rfl,_,SqL.of ht3⟩,_,rfl,by show 2<=sizeLine;decide,λp1 n1=>?_⟩
    refine⟨_,rfl,_,rfl,a,_,rfl,(S3.trans (eN n1)).seq hS,λp2 n2=>?_⟩
    refine⟨_,rfl,by show 1<=sizeLine;decide,λp3 n3=>?_⟩
    rw[sA]at n3 ⊢
    refine⟨p2,p3,_,_,rfl,rfl,by rw[fw (ft eO n3),eO],eO,?_,λp4 n4=>?_⟩
    ·refine cu (gC ?_)
     rw[aa,bp]
     show ns.length-1+1<=1000
     omega
    refine⟨by show 2<=sizeLine;decide,λp5 n5=>?_⟩
    have S5:eW H3 _:=(eN n1).trans ((eN n2).trans ((eN n3).trans ((eN n4).trans (eN (o:=.tup [.ref p1,.ref p4]) n5))))
    have lv:vs.length<=60:=by rw[D.length,aa,aa,aI];omega
    refine⟨t,vs,_,rfl,rfl,S5 _ _ ht3,gC (by omega),?_⟩
    have g1:eW (upd H3 p1 (.tup [.str "on",.int e])) _:=(eN n2).trans ((eN n3).trans ((eN n4).trans (eN (o:=.tup [.ref p1,.ref p4]) n5)))
    have:=qH (w:= "on") (e:=e) (xs:=ns.drop 1 ++ [e]) S3 ht ht3 D S5 (g1 _ _ eO) (eW.free ((eN n1).trans ((eN n2).trans (eN n3))) n4) (by rw[fw (ft eO n5),eO,aC];rfl) eO
    obtain⟨r1,r2,r3⟩:=this
    refine⟨_,_,rfl,r1,?_,r2,?_⟩
    ·rw[fw nt];exact S5 _ _ hp3
    ·rw[qT (onM ns) _ i e q];exact r3
  rintro σ H3 ⟨vs,x,rfl,S3,hp3,ht3,D⟩
  rw[aa,bo]at D
  refine⟨_,rfl,_,rfl,_,rfl,a,_,_,_,rfl,rfl,S3.seq hS,A9 hne,v,_,l,ns,_,rfl,Da.same S3 hv,Da.same S3 hu,ok,by omega,λp' H4 s4 hp' hp4=>?_⟩
  have nt':p'≠t:=(ft ht3 hp').symm
  have D4:Dgs (Lf H H4 t) (SqT K H4) (((fr l ns (oth (ns.getLastD 0))).map (onM ns)).map dMv) vs:=Dgs.mono (λa us ⟨h1,h2,h3⟩=>⟨s4 _ _ h1,h2,h3⟩) (λa us h=>gv s4 h) D
  refine⟨p',rfl,⟨_,SqL.of hp4⟩,jE (K:=K) (a:=p') (xs:=(fr l ns (ns.headD 0)).map V.int) (λi σ H3=>∃ (vs:List V) (x:Option V),σ = [some v,some (.ref a),some (.ref t),x]/\eW H H3/\H3 p'=some (.lst ((fr l ns (ns.headD 0)).map V.int))/\H3 t=some (.lst vs)/\
    Dgs (Lf H H3 t) (SqT K H3) (((fr l ns (oth (ns.getLastD 0))).map (onM ns)++((fr l ns (ns.headD 0)).take i).map (wq ns)).map dMv) vs)
   ⟨vs,x,rfl,S3.trans s4,hp4,s4 _ _ ht3,by simpa using D4⟩ (λi σ H3 _ ⟨_,_,_,_,h,_⟩=>SqL.of h) ?_ ?_⟩
  ·rintro i y σ H3 hi ⟨vs,x,rfl,S3,hp3,ht3,D⟩
   rw[ah]at hi
   cases q:(fr l ns (ns.headD 0))[i]? with
   |none=>rw[q]at hi;cases hi
   |some e=>
    rw[q]at hi
    cases hi
    have hil:i<(fr l ns (ns.headD 0)).length:=(af.mp q).1
    refine⟨_,rfl,.inl ⟨rfl,_,SqL.of ht3⟩,_,rfl,by show 2<=sizeLine;decide,λp1 n1=>?_⟩
    refine⟨_,rfl,e,rfl,by show 1<=sizeLine;decide,λp2 n2=>?_⟩
    refine⟨_,rfl,_,rfl,_,rfl,a,_,rfl,(S3.trans ((eN n1).trans (eN n2))).seq hS,λp3 n3=>?_⟩
    have ec:nO (ns.map V.int) none (some (-1))=ns.dropLast.map V.int:=AZ ns
    refine⟨p2,p3,_,_,rfl,rfl,by rw[fw (ft eO n3),eO],eO,?_,λp4 n4=>?_⟩
    ·refine cu (gC ?_)
     show 1+(nO (ns.map V.int) none (some (-1))).length<=1000
     rw[ec,aa,bM]
     omega
    refine⟨by show 2<=sizeLine;decide,λp5 n5=>?_⟩
    have S5:eW H3 _:=(eN n1).trans ((eN n2).trans ((eN n3).trans ((eN n4).trans (eN (o:=.tup [.ref p1,.ref p4]) n5))))
    have lv:vs.length<=120:=by rw[D.length,aa,aG,aa,aa,aI];omega
    refine⟨t,vs,_,rfl,rfl,S5 _ _ ht3,gC (by omega),?_⟩
    have g1:eW (upd H3 p1 (.tup [.str "back",.int e])) _:=(eN n2).trans ((eN n3).trans ((eN n4).trans (eN (o:=.tup [.ref p1,.ref p4]) n5)))
    have:=qH (w:= "back") (e:=e) (xs:=oth e::ns.dropLast) S3 ht ht3 D S5 (g1 _ _ eO) (eW.free ((eN n1).trans ((eN n2).trans (eN n3))) n4) (by
     rw[fw (ft eO n5),eO]
     show some (HO.lst ([V.int (oth e)]++nO (ns.map V.int) none (some (-1))))=_
     rw[ec];rfl) eO
    obtain⟨r1,r2,r3⟩:=this
    refine⟨_,_,rfl,r1,?_,r2,?_⟩
    ·rw[fw nt'];exact S5 _ _ hp3
    ·rw[qT (wq ns) _ i e q,<-cN];exact r3
  rintro σ H3 ⟨vs,x,rfl,S3,hp3,ht3,D⟩
  rw[aa,bo]at D
  exact⟨_,rfl,k t vs H3 S3 ht ht3 D⟩
end
structure Xr (K:PySem.W.Frag)(mg:Str->Option Value)(c2 c3:Addr):Prop where
 iK:Xc K mg "NoTrain" c2
 tN:Xc K mg "NoMove" c3
noncomputable def yB (K:PySem.W.Frag)(C:Addr):Sp:=λvs H Q E=>∃ (v u m:V) (l:Int×List (Int×Int)) (ns:List Int) (k:Str×Int),vs = [v,u,m]/\Da K H (dL l) v/\Da K H (dI ns) u/\Da K H (dM k) m/\PyData.strOk k.1=true/\gI l/\ns≠ []/\ns.length<=900/\
 (∀ b,fnd (mvs l ns) k=some b->qN H b Q)/\(fnd (mvs l ns) k=none->∀ H',eW H H'->∀ e,H' e=none->E (.ref C) (some e) H')
noncomputable def isT (l:Ln)(ns:List Int):Prop:=ns≠ []/\pQ l ns
noncomputable def xH (K:PySem.W.Frag):Sp:=λvs H Q _=>∃ (v:V) (l:Int×List (Int×Int)) (e:Int),vs = [v,.int e]/\Da K H (dL l) v/\Q (.bl (decide (0<=e/\e<2*l.1))) H
noncomputable def va (K:PySem.W.Frag)(C:Addr):Sp:=λvs H Q E=>∃ (v u:V) (l:Int×List (Int×Int)) (ns:List Int),vs = [v,u]/\Da K H (dL l) v/\Da K H (dI ns) u/\gI l/\ns.length<=900/\
 (isT l ns->∀ H',eW H H'->Q .non H')/\(¬isT l ns->∀ H',eW H H'->∀ e,H' e=none->E (.ref C) (some e) H')
noncomputable abbrev vk:Stmt:=top 23
theorem yN:fh ["line","train","move","own","behind"] ["line","train","move"] (eT vk):=⟨rfl,rfl,rfl,by decide +kernel,rfl,by decide +kernel,by decide +kernel⟩
noncomputable abbrev ja:Stmt:=top 19
theorem kF:fh ["line","train","end","following"] ["line","train"] (eT ja):=⟨rfl,rfl,rfl,by decide +kernel,rfl,by decide +kernel,by decide +kernel⟩
theorem ox:gp (eT ja) ["line","train","end","following"] {kind:=.function,names:=[(Str.ofString ".0",.local),(Str.ofString "end",.local),(Str.ofString "piece_of",.globalImplicit)],isGenerator:=false,isCoroutine:=false,more:=[]} ["end"] 1 [none]:=⟨rfl,by decide +kernel,by decide +kernel,by decide +kernel,rfl,by decide +kernel,rfl,by decide +kernel⟩
section
variable {P:Program}{w:World}{K:PySem.W.Frag}{mg:Str->Option Value}{base:Heap}{f:Addr}{fd:FuncData}{D c1 c2 c3 c4 c5 c6 c7:Addr}{t1 t2 t3 t4:Tok}
theorem Hg (F:Fn K mg "done" vk ["line","train","move"] f fd)(XS:Xr K mg c2 c3)(ie:Fn K mg "moves_of" mK ["line","train"] f1 fd1)
  (kZ:eX P w K mg base CX0 3 f1 fd1 ["line","train"] (sM K)):eX P w K mg base (CXr P w base) 4 f fd ["line","train","move"] (yB K c3):=by
 refine F.F.okX yN (λvs H Q E h=>?_) (λcdv A outer s H vs Q E hr h=>?_)
 ·obtain⟨v,u,m,l,ns,k,rfl,_⟩:=h;rfl
 ·obtain⟨v,u,m,l,ns,k,rfl,hv,hu,hm,hk,ok,hne,hz,k1,k2⟩:=h
  refine⟨_,(eP (jT PassesOwn.leaving rfl (gc (eS kZ (hr.mono (by decide)) rfl ie.m ie.F.kp ie.b .nil fo (eL (pv 0) (eL (pv 1) eM)))) (jk (n:=2) rfl (fu (fe (i:=3) yN.nd rfl (Or.inl rfl)) (fu (fe (i:=4) yN.nd rfl (Or.inl rfl)) gN)))
 (eQ (fF (fL (I0 hr.units) (pv 3) (pv 2) (gZ _))
 (eQ (fb (pv 4))) fc)))
 (eQ (gx gh rfl rfl XS.tN.m XS.tN.q az (eL eU eM)))),?_⟩
  refine⟨_,rfl,_,rfl,v,u,l,ns,rfl,hv,hu,ok,hne,hz,λp vs H1 s1 hp hp1 D1=>?_⟩
  refine⟨p,rfl,⟨_,SqL.of hp1⟩,jE (K:=K) (a:=p) (xs:=vs) (λi σ H3=>∃ (x3 x4:Option V),σ = [some v,some u,some m,x3,x4]/\H3=H1/\∀ j,j<i->∀ n,(mvs l ns)[j]? = some n->n.1≠k)
   ⟨none,none,rfl,rfl,λj hj=>absurd hj (Nat.not_lt_zero j)⟩ (λi σ H3 _ ⟨_,_,_,e,_⟩=>e ▸ SqL.of hp1) ?_ ?_⟩
  ·rintro i y σ H3 hi ⟨x3,x4,rfl,rfl,no⟩
   obtain⟨n,ad,p1,b,hn,rfl,ht,dm,hb,nb,_⟩:=HY D1 hi
   refine⟨ad,_,rfl,ht,rfl,_,_,rfl,_,_,rfl,rfl,?_⟩
   refine⟨_,rfl,_,rfl,dM n.1,dM k,dm,Da.same s1 hm,Cs (xD l ns n (aB hn)),Cs hk,_,rfl,?_⟩
   rw[Gw]
   refine fG (λe=>?_) (λe=>?_)
   ·have e:n.1=k:=by simpa using e
    exact⟨_,rfl,k1 _ (Hy hn e no) b H3 s1 nb hb⟩
   ·have e:n.1≠k:=by simpa using e
    refine⟨_,_,rfl,rfl,λj hj n' hn'=>?_⟩
    rcases cU.mp hj with z |z
    ·exact no j z n' hn'
    ·subst z;rw[hn]at hn';cases hn';exact e
  ·rintro σ H3 ⟨x3,x4,rfl,rfl,no⟩
   have hlen:(mvs l ns).length=vs.length:=by have:=D1.length;rw[aa]at this;exact this.symm
   refine⟨by decide,λe he=>k2 (Gq λj hj=>no j (by omega)) H3 s1 e he⟩
theorem Bx (F:Fn K mg "is_end" n6 ["line","end"] f fd):eX P w K mg base CX0 1 f fd ["line","end"] (xH K):=by
 refine F.F.ok xJ (λvs H Q E h=>?_) (λcdv A outer s H vs Q E hr h=>?_)
 ·obtain⟨v,l,e,rfl,_⟩:=h;rfl
 ·obtain⟨v,l,e,rfl,hv,k⟩:=h
  obtain⟨a,b,rfl,ht,us,hl,hq⟩:=i3 hv
  refine⟨_,(eQ (fb (Af HV HU eR (pv 1) (eY jm eR (fU lR (pv 0) eR (λ_ _=>rfl)))))),?_⟩
  refine⟨_,rfl,_,_,rfl,rfl,_,rfl,fG (λh=>?_) (λh=>?_)⟩
  ·have h:0<=e:=by simpa using h
   refine⟨_,rfl,a,_,_,_,rfl,rfl,ht,rfl,_,_,rfl,rfl,.inl ⟨by decide,by decide⟩,_,_,rfl,rfl,?_⟩
   have e1:decide (0<=e/\e<2*l.1)=decide (e<2*l.1):=by simp[h]
   rw[e1]at k
   exact k
  ·have h:¬0<=e:=by simpa using h
   have e1:decide (0<=e/\e<2*l.1)=false:=by simp[h]
   rw[e1]at k
   exact k
theorem vM (F:Fn K mg "check_train" ja ["line","train"] f fd)(XS:Xr K mg c2 c3)(B:Bm mg)(ig:Fn K mg "is_end" n6 ["line","end"] f1 fd1)
  (fB:Fn K mg "piece_of" j8 ["end"] f2 fd2) (i8:Fn K mg "joined" mL ["line","end"] f3 fd3) (fR:Fn K mg "other_end" kh ["end"] f4 fd4):eX P w K mg base (CXr P w base) 2 f fd ["line","train"] (va K c2):=by
 have sH:eX P w K mg base CX0 1 f1 fd1 ["line","end"] (xH K):=Bx ig
 have i4:eX P w K mg base CX0 1 f2 fd2 ["end"] rK:=ni fB
 have wx:eX P w K mg base CX0 1 f3 fd3 ["line","end"] (rh K):=xU i8 B.toBl
 have ku:eX P w K mg base CX0 1 f4 fd4 ["end"] lD:=oZ fR
 refine F.F.okX kF (λvs H Q E h=>?_) (λcdv A outer s H vs Q E hr h=>?_)
 ·obtain⟨v,u,l,ns,rfl,_⟩:=h;rfl
 ·obtain⟨v,u,l,ns,rfl,hv,hu,ok,hz,k1,k2⟩:=h
  obtain⟨a,rfl,ha⟩:=iJ.mp hu
  refine⟨_,(eP (fF (nG (pX (pv 1) (λ_=>rfl)))
 (eQ (gx gh rfl rfl XS.iK.m XS.iK.q az (eL eU eM))) fc)
 (eP (jT PassesOwn.leaving rfl (gc (pv 1)) (fe (i:=2) kF.nd rfl (Or.inl rfl))
 (eQ (fF (nG (rk (eS sH (hr.mono (by decide)) rfl ig.m ig.F.kp ig.b .nil fo (eL (pv 0) (eL (pv 2) eM)))))
 (eQ (gx gh rfl rfl XS.iK.m XS.iK.q az (eL eU eM))) fc)))
 (eP (fF (fC (pL (fA yh rfl B.len bz (eL (Kv (gc (pv 1)) rfl ox (.name (by decide)) (λ_ _ _ _=>(fe (i:=0) ox.nd rfl (Or.inl rfl))) (λ_ _ _ _=>gU) (λ_ _ _ _=>(eS i4 (hr.mono (by decide)) rfl fB.m fB.F.kp fB.b .nil fo (eL (pv 0) eM)))) eM)) (fA fI rfl B.len bz (eL (pv 1) eM))))
 (eQ (gx gh rfl rfl XS.iK.m XS.iK.q az (eL eU eM))) fc)
 (eQ (jT PassesOwn.leaving rfl (Fp rfl B.zip (eL (pv 1) (eL (gF iU (pv 1) (gX eR) gY) eM))) (jk (n:=2) rfl (fu (fe (i:=2) kF.nd rfl (Or.inl rfl)) (fu (fe (i:=3) kF.nd rfl (Or.inl rfl)) gN)))
 (eQ (fF (fL (kW hr.units) (pv 3) (eS wx (hr.mono (by decide)) rfl i8.m i8.F.kp i8.b .nil fo (eL (pv 0) (eL (eS ku (hr.mono (by decide)) rfl fR.m fR.F.kp fR.b .nil fo (eL (pv 2) eM)) eM))) (by with_unfolding_all rfl))
 (eQ (gx gh rfl rfl XS.iK.m XS.iK.q az (eL eU eM))) fc))))))),?_⟩
  refine⟨_,rfl,_,.inl ⟨_,ha,rfl⟩,fG (λh=>?_) (λh=>?_)⟩
  ·have h:ns = []:=by simpa using h
   exact⟨by decide,λe he=>k2 (λz=>z.1 h) H (eW.refl _) e he⟩
  have hne:ns≠ []:=by simpa using h
  refine⟨_,rfl,a,rfl,⟨_,ha⟩,jE (K:=K) (a:=a) (xs:=ns.map V.int) (λi σ H3=>∃ (x2 x3:Option V),σ = [some v,some (.ref a),x2,x3]/\H3=H/\∀ e∈ns.take i,0<=e/\e<2*l.1)
   ⟨none,none,rfl,rfl,λe he=>by simp at he⟩ (λi σ H3 _ ⟨_,_,_,e,_⟩=>e ▸ ha) ?_ ?_⟩
  ·rintro i y σ H3 hi ⟨x2,x3,rfl,rfl,al⟩
   rw[ah]at hi
   obtain⟨e,he,rfl⟩:∃ e,ns[i]? = some e/\y = .int e:=by
    cases q:ns[i]? with
    |none=>rw[q]at hi;cases hi
    |some e=>rw[q]at hi;cases hi;exact⟨e,rfl,rfl⟩
   refine⟨_,rfl,_,rfl,v,l,e,rfl,hv,_,rfl,fG (λh=>?_) (λh=>?_)⟩
   ·have h:¬(0<=e/\e<2*l.1):=λz=>by simp[z]at h
    exact⟨by decide,λx hx=>k2 (λz=>h (z.2.ends e (aB he))) H3 (eW.refl _) x hx⟩
   ·have h:0<=e/\e<2*l.1:=by simpa using h
    refine⟨_,_,rfl,rfl,λx hx=>?_⟩
    rw[bx,he]at hx
    rcases aL.mp hx with z |z
    ·exact al x z
    ·have z:x=e:=by simpa using z
     rw[z];exact h
  rintro σ H3 ⟨x2,x3,rfl,rfl,al⟩
  rw[aa,bo]at al
  refine⟨_,rfl,a,rfl,⟨_,ha⟩,λq nq=>E6 (gr ha) ns (λe=>e/2) nq (by rw[aa]) (by rw[aa];show ns.length+1<4096;omega) ?_ ?_⟩
  ·intro i x d H' hx hd sm P1 P0 p1
   rw[ah,hd]at hx
   cases hx
   refine iQ ?_
   exact⟨_,rfl,d,rfl,p1⟩
  have hq3:=eO (H:=H3) (a:=q) (o:=.set (λk=>decide (k∈ns.map λe=>e/2)) (dn (ns.map λe=>e/2) (ns.map V.int).length))
  have s4:=eN (o:=.set (λk=>decide (k∈ns.map λe=>e/2)) (dn (ns.map λe=>e/2) (ns.map V.int).length)) nq
  generalize upd H3 q _=H4 at hq3 s4 ⊢
  refine⟨q,_,_,rfl,hq3,_,rfl,a,_,rfl,.inl (s4.seq ha),_,_,rfl,rfl,_,rfl,fG (λh=>?_) (λh=>?_)⟩
  ·have h:dn (ns.map λe=>e/2) (ns.map V.int).length<(ns.map V.int).length:=by simpa using h
   rw[aa]at h
   have h2:=(CP (ns.map λe=>e/2)).mp (by rw[aa];exact h)
   exact⟨by decide,λx hx=>k2 (λz=>h2 z.2.nd) H4 s4 x hx⟩
  have h:¬dn (ns.map λe=>e/2) (ns.map V.int).length<(ns.map V.int).length:=by simpa using h
  rw[aa]at h
  have nd:(ns.map λe=>e/2).Nodup:=by
   have h3:=(CP (ns.map λe=>e/2))
   rw[aa]at h3
   exact eu λz=>h (h3.mpr z)
  refine⟨_,rfl,_,rfl,_,rfl,a,_,rfl,s4.seq ha,λt nt=>?_⟩
  rw[sA]
  have ht:=eO (H:=H4) (a:=t) (o:=.lst ((ns.drop 1).map V.int))
  have s5:=eN (o:=.lst ((ns.drop 1).map V.int)) nt
  generalize upd H4 t _=H5 at ht s5 ⊢
  have S5:=s4.trans s5
  refine⟨a,t,rfl,⟨_,S5.seq ha⟩,⟨_,SqL.of ht⟩,CM (K:=K) (a:=a) (b:=t) (xs:=ns.map V.int) (ys:=(ns.drop 1).map V.int) (ns.length-1) (by simp)
   (λi σ H6=>∃ (x2 x3:Option V),σ = [some v,some (.ref a),x2,x3]/\eW H5 H6/\∀ j,j<i->∀ x y,ns[j]? = some x->ns[j+1]? = some y->y∈jn l.2 (oth x))
   ⟨_,_,rfl,eW.refl _,λj hj=>absurd hj (Nat.not_lt_zero j)⟩ (λi σ H6 _ ⟨_,_,_,s,_⟩=>⟨(S5.trans s).seq ha,SqL.of (s _ _ ht)⟩) ?_ ?_⟩
  ·rintro i x y σ H6 p hx hy ⟨x2,x3,rfl,s6,al2⟩ np
   rw[ah]at hx hy
   rw[bX,Nat.add_comm]at hy
   obtain⟨d,hd,rfl⟩:∃ e,ns[i]? = some e/\x = .int e:=by
    cases q:ns[i]? with
    |none=>rw[q]at hx;cases hx
    |some e=>rw[q]at hx;cases hx;exact⟨e,rfl,rfl⟩
   obtain⟨e,he,rfl⟩:∃ e,ns[i+1]? = some e/\y = .int e:=by
    cases q:ns[i+1]? with
    |none=>rw[q]at hy;cases hy
    |some e=>rw[q]at hy;cases hy;exact⟨e,rfl,rfl⟩
   have S7:=(S5.trans s6).trans (eN (o:=.tup [.int d,.int e]) np)
   have s7:=s6.trans (eN (o:=.tup [.int d,.int e]) np)
   refine⟨p,_,rfl,SqT.of eO,rfl,_,_,rfl,_,_,rfl,rfl,?_⟩
   refine⟨_,rfl,_,rfl,_,rfl,d,rfl,v,l,_,rfl,Da.same S7 hv,ok,λr H8 s8 nr hr8=>?_⟩
   refine⟨(jn l.2 (oth d)).map PyData.int,.int e,iZ hr8,gj.mpr rfl,sV _,qJ _,_,rfl,?_⟩
   rw[yo]
   refine fG (λh=>?_) (λh=>?_)
   ·have h:e∉jn l.2 (oth d):=by simpa using h
    exact⟨by decide,λx hx=>k2 (λz=>h (z.2.ch i d e hd he)) H8 (S7.trans s8) x hx⟩
   ·have h:e∈jn l.2 (oth d):=by simpa using h
    refine⟨_,_,rfl,s7.trans s8,λj hj x2 y2 hx2 hy2=>?_⟩
    rcases cU.mp hj with z |z
    ·exact al2 j z x2 y2 hx2 hy2
    ·subst z
     rw[hd]at hx2;rw[he]at hy2
     cases hx2;cases hy2
     exact h
  rintro σ H6 ⟨x2,x3,rfl,s6,al2⟩
  refine k1 ⟨hne,al,nd,λi x y hx hy=>al2 i ?_ x y hx hy⟩ H6 (S5.trans s6)
  have:=(af.mp hy).1
  omega
end
theorem Dq:uU []=Str.ofString "-" :=by decide +kernel
theorem EI {run:List (Str×Int)}(h:run≠ []):uU run=Str.join (chS 32) (run.map txM):=by
 cases run with
 |nil=>exact absurd rfl h
 |cons k r=>
  unfold uU
  refine oG ?_
  rw[ij]
  show _ ++ []=_
  rw[bS]
theorem empty_app (x:Str):Str.empty++x=x:=by
 refine oG ?_
 rw[ij];rfl
noncomputable abbrev jH:Stmt:=top 55
theorem wI:fh ["train"] ["train"] (eT jH):=⟨rfl,rfl,rfl,by decide +kernel,rfl,by decide +kernel,by decide +kernel⟩
theorem pN:gp (eT jH) ["train"] {kind:=.function,names:=[(Str.ofString ".0",.local),(Str.ofString "end",.local),(Str.ofString "show_end",.globalImplicit)],isGenerator:=false,isCoroutine:=false,more:=[]} ["end"] 1 [none]:=⟨rfl,by decide +kernel,by decide +kernel,by decide +kernel,rfl,by decide +kernel,rfl,by decide +kernel⟩
noncomputable abbrev mI:Stmt:=top 56
theorem zX:fh ["run"] ["run"] (eT mI):=⟨rfl,rfl,rfl,by decide +kernel,rfl,by decide +kernel,by decide +kernel⟩
theorem nP:gp (eT mI) ["run"] {kind:=.function,names:=[(Str.ofString ".0",.local),(Str.ofString "word",.local),(Str.ofString "end",.local),(Str.ofString "show_end",.globalImplicit)],isGenerator:=false,isCoroutine:=false,more:=[]} ["word","end"] 2 [none,none]:=⟨rfl,by decide +kernel,by decide +kernel,by decide +kernel,rfl,by decide +kernel,rfl,by decide +kernel⟩
section
variable {P:Program}{w:World}{K:PySem.W.Frag}{mg:Str->Option Value}{base:Heap}{f:Addr}{fd:FuncData}
theorem wY (F:Fn K mg "show_train" jH ["train"] f fd)(ic:Fn K mg "show_end" mJ ["end"] f1 fd1)(kY:eX P w K mg base CX0 2 f1 fd1 ["end"] rg):eX P w K mg base CX0 3 f fd ["train"] (nX K):=by
 refine F.F.ok wI (λvs H Q E h=>?_) (λcdv A outer s H vs Q E hr h=>?_)
 ·obtain⟨v,ns,rfl,_⟩:=h;rfl
 ·obtain⟨v,ns,rfl,hv,hN,k⟩:=h
  obtain⟨a,rfl,hS⟩:=iJ.mp hv
  have hl:=hN.1
  refine⟨_,(eQ (fb (jt aS cm ck zf eU (eL (og (gc (pv 0)) rfl pN (.name (by decide)) (λ_ _ _ _=>(fe (i:=0) pN.nd rfl (Or.inl rfl))) (λ_ _ _ _=>gU) (λ_ _ _ _=>(eS kY (hr.mono (by decide)) rfl ic.m ic.F.kp ic.b .nil fo (eL (pv 0) eM)))) eM)))),?_⟩
  refine⟨rfl,_,rfl,a,rfl,⟨_,hS⟩,λt nt=>sg ns.length ns (λ_=>true) (λe=>V.str (txE e)) nt rfl (me (by omega)) (λi H s hi=>(gr hS).go i H s (by rw[aa];exact hi)) (λH s=>by have:=(gr hS).stop H s;rw[aa]at this;exact this) ?_ ?_⟩
  ·intro i y d G G' sG yy hd P1 P0 p1 p0
   have hi:i<ns.length:=(af.mp hd).1
   obtain⟨rfl,hx'⟩:=(gr hS).yld i G y G' sG (by rw[aa];exact hi) yy
   rw[ah,hd]at hx'
   cases hx'
   have he:=hN.2 d (aB hd)
   refine iQ ?_
   exact⟨_,rfl,d,rfl,he.1,he.2,p1 _ rfl (eW.refl _)⟩
  intro H5 s5 h5
  rw[jb]at h5
  refine⟨_,t,ns.map txE,rfl,rfl,SqL.of (by rw[h5,aY];rfl),λy hy=>?_,by rw[aa];omega,by decide,?_⟩
  ·obtain⟨e,he,rfl⟩:=aA.mp hy
   have:=(jj (hN.2 e he).1 (hN.2 e he).2).2.2
   omega
  ·rw[iD]
   exact k _ s5
theorem Ai (F:Fn K mg "show_run" mI ["run"] f fd)(ic:Fn K mg "show_end" mJ ["end"] f1 fd1)(kY:eX P w K mg base CX0 2 f1 fd1 ["end"] rg):eX P w K mg base CX0 3 f fd ["run"] (zS K):=by
 refine F.F.ok zX (λvs H Q E h=>?_) (λcdv A outer s H vs Q E hr h=>?_)
 ·obtain⟨v,run,rfl,_⟩:=h;rfl
 ·obtain⟨v,run,rfl,hv,hK,k⟩:=h
  obtain⟨a,us,rfl,hS,D⟩:=iY.mp hv
  have hl:=hK.1
  have ul:us.length=run.length:=by have:=Dgs.length D;rw[aa]at this;exact this
  refine⟨_,(eP (fF (nG (pX (pv 0) (λ_=>rfl)))
 (eQ (fb eU)) fc)
 (eQ (fb (jt aS cm ck zf eU (eL (og (gc (pv 0)) rfl nP (.tup (.cons (.name (by decide)) (.cons (.name (by decide)) .nil))) (λ_ _ _ _=>(jk (n:=2) rfl (fu (fe (i:=0) nP.nd rfl (Or.inl rfl)) (fu (fe (i:=1) nP.nd rfl (Or.inl rfl)) gN)))) (λ_ _ _ _=>gU) (λ_ _ _ _=>(uO (sQ (pv 0) (n8 (sQ (eS kY (hr.mono (by decide)) rfl ic.m ic.F.kp ic.b .nil fo (eL (pv 1) eM)) yS)))))) eM))))),?_⟩
  refine⟨_,rfl,_,.inl ⟨_,hS,rfl⟩,fG (λh=>?_) (λh=>?_)⟩
  ·have h:us = []:=by simpa using h
   have hr:run = []:=cf.mp (by rw[<-ul,h];rfl)
   have:=k H (eW.refl _)
   rw[hr,Dq]at this
   exact this
  have hne:run≠ []:=λe=>h (by
   have:us = []:=cf.mp (by rw[ul,e];rfl)
   simp[this])
  refine⟨rfl,_,rfl,a,rfl,⟨_,hS⟩,λt nt=>sg run.length run (λ_=>true) (λk=>V.str (txM k)) nt rfl (me (by omega)) (λi H s hi=>(gr hS).go i H s (by rw[ul];exact hi)) (λH s=>by have:=(gr hS).stop H s;rw[ul]at this;exact this) ?_ ?_⟩
  ·intro i y d G G' sG yy hd P1 P0 p1 p0
   have hi:i<run.length:=(af.mp hd).1
   obtain⟨rfl,hx'⟩:=(gr hS).yld i G y G' sG (by rw[ul];exact hi) yy
   obtain⟨kq,hk,dk⟩:=JK (Das.same sG D) hx'
   rw[hd]at hk
   cases hk
   obtain⟨ad,rfl,hA⟩:=Lg dk
   obtain⟨g1,g2,g3⟩:=hK.2 d (aB hd)
   have gl:=(xA g1).2
   have e4:(Str.ofString " ").length=1:=by decide +kernel
   have gt:=(jj g2 g3).2.2
   refine⟨ad,_,rfl,hA,rfl,_,_,rfl,_,_,rfl,rfl,?_⟩
   unfold ER
   dsimp only
   rw[av rfl]
   have e5:Str.empty++d.1=d.1:=empty_app _
   refine⟨_,rfl,d.1,.inr ⟨rfl,by rw[aE];omega⟩,by rw[e5,aE];omega,by rw[e5,ag,aE];omega,_,rfl,d.2,rfl,g2,g3,txE d.2,.inr ⟨rfl,by rw[aE];omega⟩,by rw[e5,ag,ag,aE];omega,?_⟩
   rw[e5]
   refine⟨by rw[ag,ag,aE];omega,?_⟩
   exact p1 _ rfl (eW.refl _)
  intro H5 s5 h5
  rw[jb]at h5
  refine⟨_,t,run.map txM,rfl,rfl,SqL.of (by rw[h5,aY];rfl),λy hy=>?_,by rw[aa];omega,by decide,?_⟩
  ·obtain⟨kq,hk,rfl⟩:=aA.mp hy
   obtain⟨g1,g2,g3⟩:=hK.2 kq hk
   have gl:=(xA g1).2
   have e4:(Str.ofString " ").length=1:=by decide +kernel
   have gt:=(jj g2 g3).2.2
   unfold txM
   rw[ag,ag];omega
  rw[iD,<-EI hne]
  exact k _ s5
end
structure Fm (K:PySem.W.Frag)(x q:Str)(st:Stmt)(ps:List Str)(f:Addr)(fd:FuncData):Prop where
 F:Fun K x q st f fd
 b:Binds K fd ps []
structure DkK (K:PySem.W.Frag)(mg:Str->Option Value)(C fi fs:Addr):Prop where
 mkr:Mk K C fi
 m:mg "Desk" = some (.ref C)
 cl:Cls K C
 say:Meth K C "say" fs
 nl:qw K C "line"
 nt:qw K C "train"
noncomputable abbrev Ans:=Except Nat Str×DS
open Classical in
noncomputable def oq (S:DS) (z:Str):Ans:=match gW z with
 |none=>(.error 4,S)
 |some l=>if gb l then(.ok "ok",(some l,none))else(.error 0,S)
open Classical in
noncomputable def kc (S:DS) (z:Str):Ans:=match rdT z with
 |none=>(.error 4,S)
 |some ns=>match S.1 with
  |none=>(.error 0,S)
  |some l=>if isT l ns then(.ok "ok",(some l,some ns))else(.error 5,S)
noncomputable def both (S:DS)(k:Ln->List Int->Ans):Ans:=match S.1 with
 |none=>(.error 0,S)
 |some l=>match S.2 with
  |none=>(.error 5,S)
  |some t=>k l t
noncomputable def dGo (w:Str)(S:DS)(z:Str):Ans:=match gB z.cps.toList with
 |none=>(.error 4,S)
 |some e=>both S λl t=>match fnd (mvs l t) (w,e)with
  |some b=>(.ok (txT b),(some l,some b))
  |none=>(.error 1,S)
noncomputable def tG (S:DS):Ans:=both S λl t=>(.ok (txT (t.reverse.map oth)),(some l,some (t.reverse.map oth)))
noncomputable def pM (S:DS):Ans:=both S λ_ t=>(.ok (txT t),S)
noncomputable def lT (S:DS):Ans:=both S λl t=>(.ok (uU ((mvs l t).map (·.1))),S)
structure DOk (S:DS):Prop where
 l:∀ l,S.1=some l->gb l
 n:∀ l,S.1=some l->l.2.length<=30
 t:∀ t,S.2=some t->∃ l,S.1=some l/\isT l t
variable {S:DS}
theorem DOk.lok (h:DOk S)(hl:S.1=some l):gI l:=gb.BF (h.l l hl) (h.n l hl)
theorem isT.okN {t:List Int}(L:gb l)(h:isT l t):OkN t:=by
 have h2:l.1<=40:=L.2.1
 refine⟨?_,λe he=>by have:=h.2.ends e he;omega⟩
 have h3:=Av h.2.nd (n:=l.1) λk hk=>by
  obtain⟨e,he,rfl⟩:=aA.mp hk
  have:=h.2.ends e he
  exact⟨by omega,by omega⟩
 rw[aa]at h3
 omega
variable {k:Ln->List Int->Ans}
section
variable {S:DS}{z:Str}{l:Ln}{ns t:List Int}
theorem HB (h:gW z=some l)(i:gb l):oq S z=(.ok "ok",(some l,none)):=by unfold oq;rw[h];exact av i
theorem C8 (h:gW z=some l)(i:¬gb l):oq S z=(.error 0,S):=by unfold oq;rw[h];exact ak i
theorem CZ (h:gW z=none):oq S z=(.error 4,S):=by unfold oq;rw[h]
theorem AV (h:rdT z=none):kc S z=(.error 4,S):=by unfold kc;rw[h]
theorem AX (h:rdT z=some ns)(hl:S.1=none):kc S z=(.error 0,S):=by unfold kc;rw[h];dsimp only;rw[hl]
theorem GC (h:rdT z=some ns)(hl:S.1=some l)(i:isT l ns):kc S z=(.ok "ok",(some l,some ns)):=by unfold kc;rw[h];dsimp only;rw[hl];exact av i
theorem AW (h:rdT z=some ns)(hl:S.1=some l)(i:¬isT l ns):kc S z=(.error 5,S):=by unfold kc;rw[h];dsimp only;rw[hl];exact ak i
theorem qu (hl:S.1=none):both S k=(.error 0,S):=by unfold both;rw[hl]
theorem rA (hl:S.1=some l)(ht:S.2=none):both S k=(.error 5,S):=by unfold both;rw[hl];dsimp only;rw[ht]
theorem tJ (hl:S.1=some l)(ht:S.2=some t):both S k=k l t:=by unfold both;rw[hl];dsimp only;rw[ht]
theorem mj (h:rdT z=some ns):ns.length=(wds z).length:=by
 have:=bF List.length (Bb h)
 rw[aa,aa]at this
 exact this.symm
end
noncomputable def EE (K:PySem.W.Frag)(C:Addr)(cs:List Addr)(H:Hp)(d:Addr)(Q:VK)(E:XK)(p:Addr->Prop)(r:Ans):Prop:=
 (∀ a,r.1 = .ok a->∀ H',Oth d H H'->Dsk K C p H' d r.2->Q (.str a) H')/\(∀ j,r.1 = .error j->∀ c,cs[j]? = some c->∀ H',eW H H'->∀ e,H' e=none->E (.ref c) (some e) H')
variable {K:PySem.W.Frag}{cs:List Addr}{p:Addr->Prop}
theorem EE.same {C:Addr}{H1:Hp}{d:Addr}{Q:VK}{E:XK}{r:Ans}(s:eW H H1)(h:EE K C cs H d Q E p r):EE K C cs H1 d Q E p r:=
 ⟨λa e H' o=>h.1 a e H' ((eW.oth s).trans o),λj e c hc H' s'=>h.2 j e c hc H' (s.trans s')⟩
noncomputable def lE (K:PySem.W.Frag)(C:Addr)(cs:List Addr)(n:Nat)(D:DS->Str->Ans):Sp:=λvs H Q E=>∃ (d:Addr) (z:Str) (S:DS) (p:Addr->Prop),vs = [.ref d,.str z]/\Dsk K C p H d S/\DOk S/\z.length<=n/\EE K C cs H d Q E p (D S z)
noncomputable def nY (K:PySem.W.Frag)(C:Addr)(cs:List Addr)(D:DS->Ans):Sp:=λvs H Q E=>∃ (d:Addr) (S:DS) (p:Addr->Prop),vs = [.ref d]/\Dsk K C p H d S/\DOk S/\EE K C cs H d Q E p (D S)
theorem gJ:∀ {o:Option Ln}{v:V},VL K H o v->(v = .non↔o=none)
 |none,v,h=>⟨λ_=>rfl,λ_=>h⟩
 |some l,v,h=>⟨λz=>(by obtain⟨a,_,e,_⟩:=gd.mp h;rw[z]at e;cases e),λz=>(by cases z)⟩
theorem iL:∀ {o:Option (List Int)}{v:V},VT K H o v->(v = .non↔o=none)
 |none,v,h=>⟨λ_=>rfl,λ_=>h⟩
 |some l,v,h=>⟨λz=>(by obtain⟨a,_,e,_⟩:=iY.mp h;rw[z]at e;cases e),λz=>(by cases z)⟩
theorem Fj (x v u:V):lO "train" x [("line",v),("train",u)] = [((Str.ofString "line"),v),(Str.ofString "train",x)]:=by
 have h:¬(Str.ofString "line")=Str.ofString "train" :=by decide +kernel
 unfold lO
 rw[ak h]
 unfold lO
 rw[av rfl]
theorem Kt (x v u:V):lO "line" x [("line",v),("train",u)] = [(Str.ofString "line",x),(Str.ofString "train",u)]:=by
 unfold lO
 rw[av rfl]
noncomputable def pI (C c1:Addr):Sp:=λvs H Q E=>∃ (d dx:Addr) (v u:V),vs = [.ref d]/\H d=some (.ins C dx [("line",v),("train",u)])/\(v≠ .non->Q v H)/\(v = .non->∀ H',eW H H'->∀ e,H' e=none->E (.ref c1) (some e) H')
noncomputable def qU (C c1 c2:Addr):Sp:=λvs H Q E=>∃ (d dx:Addr) (v u:V),vs = [.ref d]/\H d=some (.ins C dx [("line",v),("train",u)])/\(v≠ .non->u≠ .non->Q u H)/\(v = .non->∀ H',eW H H'->∀ e,H' e=none->E (.ref c1) (some e) H')/\(v≠ .non->u = .non->∀ H',eW H H'->∀ e,H' e=none->E (.ref c2) (some e) H')
noncomputable abbrev gu:Stmt:=top 64
theorem yL:fh ["desk"] ["desk"] (eT gu):=⟨rfl,rfl,rfl,by decide +kernel,rfl,by decide +kernel,by decide +kernel⟩
noncomputable abbrev gz:Stmt:=top 65
theorem wM:fh ["desk"] ["desk"] (eT gz):=⟨rfl,rfl,rfl,by decide +kernel,rfl,by decide +kernel,by decide +kernel⟩
section
variable {P:Program}{w:World}{K:PySem.W.Frag}{mg:Str->Option Value}{base:Heap}{f:Addr}{fd:FuncData}{D c1 c2 c3 c4 c5 c6 c7 C fi fs:Addr}
theorem sd (F:Fn K mg "kept_line" gu ["desk"] f fd)(XS:Xs K mg D c1 c2 c3 c4 c5 c6 c7)(DK:DkK K mg C fi fs):eX P w K mg base (CXr P w base) 1 f fd ["desk"] (pI C c1):=by
 refine F.F.okX yL (λvs H Q E h=>?_) (λcdv A outer s H vs Q E hr h=>?_)
 ·obtain⟨d,dx,v,u,rfl,_⟩:=h;rfl
 ·obtain⟨d,dx,v,u,rfl,hd,k1,k2⟩:=h
  refine⟨_,(eP (fF (fC (nI (yT (pv 0) rfl)))
 (eQ (gx gh rfl rfl XS.jq.m XS.jq.q az (eL eU eM))) fc)
 (eQ (fb (yT (pv 0) rfl)))),?_⟩
  refine⟨_,rfl,d,C,dx,_,v,rfl,hd,DK.cl,DK.nl,rfl,_,rfl,fG (λh=>?_) (λh=>?_)⟩
  ·exact⟨by decide,λe he=>k2 (by simpa using h) H (eW.refl _) e he⟩
  ·exact⟨_,rfl,d,C,dx,_,v,rfl,hd,DK.cl,DK.nl,rfl,k1 (by simpa using h)⟩
theorem xb (F:Fn K mg "kept_train" gz ["desk"] f fd)(XS:Xs K mg D c1 c2 c3 c4 c5 c6 c7)(DK:DkK K mg C fi fs)(eV:Fn K mg "kept_line" gu ["desk"] f1 fd1):eX P w K mg base (CXr P w base) 2 f fd ["desk"] (qU C c1 c2):=by
 have fm:eX P w K mg base (CXr P w base) 1 f1 fd1 ["desk"] (pI C c1):=sd eV XS DK
 refine F.F.okX wM (λvs H Q E h=>?_) (λcdv A outer s H vs Q E hr h=>?_)
 ·obtain⟨d,dx,v,u,rfl,_⟩:=h;rfl
 ·obtain⟨d,dx,v,u,rfl,hd,k1,k2,k3⟩:=h
  refine⟨_,(eP (iB (eS fm (hr.mono (by decide)) rfl eV.m eV.F.kp eV.b .nil fj (eL (pv 0) eM)))
 (eP (fF (fC (nI (yT (pv 0) rfl)))
 (eQ (gx gh rfl rfl XS.iK.m XS.iK.q az (eL eU eM))) fc)
 (eQ (fb (yT (pv 0) rfl))))),?_⟩
  refine⟨_,rfl,d,dx,v,u,rfl,hd,λvn=>?_,k2⟩
  refine⟨_,rfl,d,C,dx,_,u,rfl,hd,DK.cl,DK.nt,rfl,_,rfl,fG (λh=>?_) (λh=>?_)⟩
  ·exact⟨by decide,λe he=>k3 vn (by simpa using h) H (eW.refl _) e he⟩
  ·exact⟨_,rfl,d,C,dx,_,u,rfl,hd,DK.cl,DK.nt,rfl,k1 vn (by simpa using h)⟩
end
noncomputable def Cb (K:PySem.W.Frag)(C:Addr):Sp:=λvs H Q _=>∃ (d dx:Addr) (v u x:V) (ns:List Int),vs = [.ref d,x]/\H d=some (.ins C dx [("line",v),("train",u)])/\Da K (hid d H) (dI ns) x/\OkN ns/\∀ H',eW (upd H d (.ins C dx [("line",v),("train",x)])) H'->Q (.str (txT ns)) H'
noncomputable abbrev pV:Stmt:=top 67
theorem yM:fh ["desk","rest"] ["desk","rest"] (eT pV):=⟨rfl,rfl,rfl,by decide +kernel,rfl,by decide +kernel,by decide +kernel⟩
noncomputable abbrev oW:Stmt:=top 68
theorem qW:fh ["desk","rest","train"] ["desk","rest"] (eT oW):=⟨rfl,rfl,rfl,by decide +kernel,rfl,by decide +kernel,by decide +kernel⟩
noncomputable abbrev jI:Stmt:=top 69
theorem wN:fh ["desk","train"] ["desk","train"] (eT jI):=⟨rfl,rfl,rfl,by decide +kernel,rfl,by decide +kernel,by decide +kernel⟩
section
variable {P:Program}{w:World}{K:PySem.W.Frag}{mg:Str->Option Value}{base:Heap}{f:Addr}{fd:FuncData}{D c1 c2 c3 c4 c5 c6 c7 C fi fs:Addr}
theorem y4 (F:Fn K mg "keep_line" pV ["desk","rest"] f fd)(DK:DkK K mg C fi fs)(kz:Fn K mg "read_line" lF ["text"] f1 fd1)(qx:eX P w K mg base (CXr P w base) 4 f1 fd1 ["text"] (HK K c1 c6)):
  eX P w K mg base (CXr P w base) 5 f fd ["desk","rest"] (lE K C [c1,c3,c4,c7,c6,c2,c5] 2100 oq):=by
 refine F.F.okX yM (λvs H Q E h=>?_) (λcdv A outer s H vs Q E hr h=>?_)
 ·obtain⟨d,z,S,p,rfl,_⟩:=h;rfl
 ·obtain⟨d,z,S,p,rfl,hD,hS,hz,k1,k2⟩:=h
  obtain⟨dx,v,u,hd,hv,hu⟩:=hD.at_
  refine⟨_,(eP (sO (pv 0) (eS qx (hr.mono (by decide)) rfl kz.m kz.F.kp kz.b .nil fj (eL (pv 1) eM)) rfl)
 (eP (sO (pv 0) ir rfl)
 (eQ (fb eU)))),?_⟩
  refine⟨_,rfl,z,rfl,by omega,λl hl il pl t us H1 s1 npl nt h1 h2 h3=>?_,λl hl il H1 s1 e he=>?_,λhl H1 s1 e he=>?_⟩
  ·have hd1:=s1 _ _ hd
   refine⟨_,rfl,d,C,dx,_,rfl,hd1,DK.cl,DK.nl,by show 2<1000;decide,?_⟩
   rw[Kt]
   refine⟨_,rfl,d,C,dx,_,rfl,eO,DK.cl,DK.nt,by show 2<1000;decide,?_⟩
   rw[Fj,qC]
   have li1:=LI.same s1 hD.li
   have q:=HB (S:=S) hl il
   rw[q]at k1
   refine k1 _ rfl _ (Oth.upd (eW.oth s1)) ⟨⟨dx,.ref pl,.non,eO,?_,rfl⟩,hD.pd,LI.upd li1 (.inl ⟨_,_,_,rfl⟩)⟩
   rw[kK hD.pd]
   refine FZ li1 h1 h2 h3 λz=>?_
   rcases hD.li t z with⟨_,_,_,e⟩|⟨_,e⟩<;>rw[nt]at e<;>cases e
  ·have q:=C8 (S:=S) hl il
   rw[q]at k2
   exact k2 0 rfl c1 rfl H1 s1 e he
  ·have q:=CZ (S:=S) hl
   rw[q]at k2
   exact k2 4 rfl c6 rfl H1 s1 e he
theorem xg (F:Fn K mg "keep_shown" jI ["desk","train"] f fd)(DK:DkK K mg C fi fs)(gG:Fn K mg "show_train" jH ["train"] f1 fd1)(jM:eX P w K mg base CX0 3 f1 fd1 ["train"] (nX K)):
  eX P w K mg base CX0 4 f fd ["desk","train"] (Cb K C):=by
 refine F.F.ok wN (λvs H Q E h=>?_) (λcdv A outer s H vs Q E hr h=>?_)
 ·obtain⟨d,dx,v,u,x,ns,rfl,_⟩:=h;rfl
 ·obtain⟨d,dx,v,u,x,ns,rfl,hd,hx,ok,k⟩:=h
  refine⟨_,(eP (sO (pv 0) (pv 1) rfl)
 (eQ (fb (eS jM (hr.mono (by decide)) rfl gG.m gG.F.kp gG.b .nil fo (eL (pv 1) eM))))),?_⟩
  refine⟨_,rfl,_,rfl,d,C,dx,_,rfl,hd,DK.cl,DK.nt,by show 2<1000;decide,?_⟩
  rw[Fj]
  refine⟨_,rfl,x,ns,rfl,?_,ok,λH' s=>k H' s⟩
  have h2:eW (hid d H) (upd H d (.ins C dx [("line",v),("train",x)])):=by
   rw[<-zp (o:=.ins C dx [("line",v),("train",x)])];exact qe
  exact Da.same h2 hx
theorem xf (F:Fn K mg "keep_train" oW ["desk","rest"] f fd)(DK:DkK K mg C fi fs)(fX:Fn K mg "read_train" iV ["text"] f1 fd1)(g0:eX P w K mg base (CXr P w base) 4 f1 fd1 ["text"] (B7 c6))
  (eV:Fn K mg "kept_line" gu ["desk"] f2 fd2) (fm:eX P w K mg base (CXr P w base) 1 f2 fd2 ["desk"] (pI C c1)) (gy:Fn K mg "check_train" ja ["line","train"] f3 fd3) (jd:eX P w K mg base (CXr P w base) 4 f3 fd3 ["line","train"] (va K c2)):
  eX P w K mg base (CXr P w base) 5 f fd ["desk","rest"] (lE K C [c1,c3,c4,c7,c6,c2,c5] 800 kc):=by
 refine F.F.okX qW (λvs H Q E h=>?_) (λcdv A outer s H vs Q E hr h=>?_)
 ·obtain⟨d,z,S,p,rfl,_⟩:=h;rfl
 ·obtain⟨d,z,S,p,rfl,hD,hS,hz,k1,k2⟩:=h
  obtain⟨dx,v,u,hd,hv,hu⟩:=hD.at_
  refine⟨_,(eP (fk (i:=2) qW.nd rfl (Or.inl rfl) (eS g0 (hr.mono (by decide)) rfl fX.m fX.F.kp fX.b .nil fj (eL (pv 1) eM)))
 (eP (iB (eS jd (hr.mono (by decide)) rfl gy.m gy.F.kp gy.b .nil fj (eL (eS fm (hr.mono (by decide)) rfl eV.m eV.F.kp eV.b .nil fj (eL (pv 0) eM)) (eL (pv 2) eM))))
 (eP (sO (pv 0) (pv 2) rfl)
 (eQ (fb eU))))),?_⟩
  refine⟨_,rfl,z,rfl,by omega,λns hns q H1 s1 nq hq=>?_,λhn H1 s1 e he=>?_⟩
  rotate_left
  ·have q:=AV (S:=S) hn
   rw[q]at k2
   exact k2 4 rfl c6 rfl H1 s1 e he
  have hd1:=s1 _ _ hd
  refine⟨_,rfl,d,dx,v,u,rfl,hd1,λvn=>?_,λvn H2 s2 e he=>?_⟩
  rotate_left
  ·have q:=AX hns ((gJ hv).mp vn)
   rw[q]at k2
   exact k2 0 rfl c1 rfl H2 (s1.trans s2) e he
  obtain⟨l,hl⟩:∃ l,S.1=some l:=by
   cases q:S.1 with
   |none=>exact absurd ((gJ hv).mpr q) vn
   |some l=>exact⟨l,rfl⟩
  have il:=hS.l l hl
  rw[hl]at hv
  have hv:Da K (ip p H) (dL l) v:=hv
  have nl:ns.length<=900:=by
   rw[mj hns]
   have h1:=i9 z 32
   have h2:=jK (Txt.split z (chS 32))
   unfold wds
   omega
  refine⟨_,rfl,v,.ref q,l,ns,rfl,Da.same (fZ.trans s1) hv,iZ hq,(DOk.lok hS hl),nl,λit H2 s2=>?_,λit H2 s2 e he=>?_⟩
  ·have hd2:=s2 _ _ hd1
   refine⟨_,rfl,_,rfl,d,C,dx,_,rfl,hd2,DK.cl,DK.nt,by show 2<1000;decide,?_⟩
   rw[Fj]
   have qq:=GC hns hl it
   rw[qq]at k1
   have li2:=LI.same (s1.trans s2) hD.li
   refine k1 _ rfl _ (Oth.upd (eW.oth (s1.trans s2))) ⟨⟨dx,v,.ref q,eO,?_,?_⟩,hD.pd,LI.upd li2 (.inl ⟨_,_,_,rfl⟩)⟩
   ·rw[kK hD.pd]
    exact Da.same (h8 (s1.trans s2)) hv
   ·rw[kK hD.pd]
    refine iZ ?_
    rw[iX]
    ·exact s2 _ _ hq
    ·intro z
     rcases hD.li q z with⟨_,_,_,e⟩|⟨_,e⟩<;>rw[nq]at e<;>cases e
  ·have qq:=AW hns hl it
   rw[qq]at k2
   exact k2 5 rfl c2 rfl H2 (s1.trans s2) e he
end
theorem AE {H0 H1:Hp}{p l:Addr}{vs:List V}{ms:List Mv}{σ:L2.St}{Q:VK}(hp:H1 p=some (.lst vs))(D:Dgs (Lf H0 H1 p) (SqT K H1) (ms.map dMv) vs)(hz:ms.length<=1000)(nl:H1 l=none)
  (hq:∀ us H',eW H1 H'->H' l=some (.lst us)->Das K (hid l H') ((ms.map (·.1)).map dM) us->Q (.ref l) H'):LcW (Itl K p) (JC K 2 (AU (lI 0) (AU (lI 1) JE))) ER (Dz 0) [none,none] σ Q l H1:=by
 have ml:vs.length=ms.length:=by have:=D.length;rw[aa]at this;exact this
 refine CC (K:=K) ms.length ms (λm=>dM m.1) nl rfl (me hz) (λi G s hi=>(gr (SqL.of hp)).go i G s (by omega)) (λG s=>by have:=(gr (SqL.of (K:=K) hp)).stop G s;rw[ml]at this;exact this) ?_ ?_
 ·rintro i x d H8 H9 s8 ⟨us8,hl8⟩ ⟨rfl,y⟩ hd P1 P0 k1
  have hx:=y vs (SqL.of (s8 _ _ hp))
  obtain⟨m,ad,p1,bb,hm,rfl,ht,dm,hbb,nbb,_⟩:=HY D hx
  rw[hd]at hm
  cases hm
  obtain⟨a1,ea1,htm⟩:=Lg dm
  cases ea1
  refine⟨ad,_,rfl,gv s8 ht,rfl,_,_,rfl,_,_,rfl,rfl,J7 ?_⟩
  refine⟨_,rfl,k1 _ _ (eW.refl _) (gd.mpr ⟨p1,_,rfl,Hv hl8 (gv s8 htm),Dgs.two (nN.mpr rfl) (gj.mpr rfl)⟩)⟩
 ·intro us H' s hl DD
  refine hq us H' s hl ?_
  rw[aY];exact DD
noncomputable abbrev yP:Stmt:=top 70
theorem zZ:fh ["desk","rest","move"] ["desk","rest"] (eT yP):=⟨rfl,rfl,rfl,by decide +kernel,rfl,by decide +kernel,by decide +kernel⟩
noncomputable abbrev sN:Stmt:=top 71
theorem vj:fh ["desk","rest","move"] ["desk","rest"] (eT sN):=⟨rfl,rfl,rfl,by decide +kernel,rfl,by decide +kernel,by decide +kernel⟩
noncomputable abbrev oM:Stmt:=top 72
theorem wF:fh ["desk"] ["desk"] (eT oM):=⟨rfl,rfl,rfl,by decide +kernel,rfl,by decide +kernel,by decide +kernel⟩
noncomputable abbrev mf:Stmt:=top 73
theorem wH:fh ["desk"] ["desk"] (eT mf):=⟨rfl,rfl,rfl,by decide +kernel,rfl,by decide +kernel,by decide +kernel⟩
theorem lU:gp (eT mf) ["desk"] {kind:=.function,names:=[(Str.ofString ".0",.local),(Str.ofString "move",.local),(Str.ofString "behind",.local)],isGenerator:=false,isCoroutine:=false,more:=[]} ["move","behind"] 2 [none,none]:=⟨rfl,by decide +kernel,by decide +kernel,by decide +kernel,rfl,by decide +kernel,rfl,by decide +kernel⟩
noncomputable abbrev oO:Stmt:=top 74
theorem wG:fh ["desk"] ["desk"] (eT oO):=⟨rfl,rfl,rfl,by decide +kernel,rfl,by decide +kernel,by decide +kernel⟩
variable {f5:Addr}{fd5:FuncData}
section
variable {P:Program}{w:World}{K:PySem.W.Frag}{mg:Str->Option Value}{base:Heap}{f:Addr}{fd:FuncData}{D c1 c2 c3 c4 c5 c6 c7 C fi fs:Addr}
theorem FG (F:Fn K mg "go_on" yP ["desk","rest"] f fd)(fP:Fn K mg "read_end" j6 ["text"] f1 fd1)(gL:eX P w K mg base (CXr P w base) 2 f1 fd1 ["text"] (rJ c6))
  (eV:Fn K mg "kept_line" gu ["desk"] f2 fd2) (fm:eX P w K mg base (CXr P w base) 1 f2 fd2 ["desk"] (pI C c1)) (eZ:Fn K mg "kept_train" gz ["desk"] f3 fd3) (fq:eX P w K mg base (CXr P w base) 2 f3 fd3 ["desk"] (qU C c1 c2))
  (m7:Fn K mg "done" vk ["line","train","move"] f4 fd4) (tQ:eX P w K mg base (CXr P w base) 4 f4 fd4 ["line","train","move"] (yB K c3)) (fY:Fn K mg "keep_shown" jI ["desk","train"] f5 fd5) (g8:eX P w K mg base CX0 4 f5 fd5 ["desk","train"] (Cb K C)):
  eX P w K mg base (CXr P w base) 5 f fd ["desk","rest"] (lE K C [c1,c3,c4,c7,c6,c2,c5] 800 (dGo "on")):=by
 refine F.F.okX zZ (λvs H Q E h=>?_) (λcdv A outer s H vs Q E hr h=>?_)
 ·obtain⟨d,z,S,p,rfl,_⟩:=h;rfl
 ·obtain⟨d,z,S,p,rfl,hD,hS,hz,kk⟩:=h
  refine⟨_,(eP (fk (i:=2) zZ.nd rfl (Or.inl rfl) (iq (eL eU (eL (eS gL (hr.mono (by decide)) rfl fP.m fP.F.kp fP.b .nil fj (eL (pv 1) eM)) eM))))
 (eQ (fb (eS g8 (hr.mono (by decide)) rfl fY.m fY.F.kp fY.b .nil fo (eL (pv 0) (eL (eS tQ (hr.mono (by decide)) rfl m7.m m7.F.kp m7.b .nil fj (eL (eS fm (hr.mono (by decide)) rfl eV.m eV.F.kp eV.b .nil fj (eL (pv 0) eM)) (eL (eS fq (hr.mono (by decide)) rfl eZ.m eZ.F.kp eZ.b .nil fj (eL (pv 0) eM)) (eL (pv 2) eM)))) eM)))))),?_⟩
  refine⟨_,rfl,z,rfl,by omega,λe he H1 s1=>?_,λhn H1 s1 e he=>?_⟩
  rotate_left
  ·have q:dGo "on" S z=(.error 4,S):=by unfold dGo;rw[hn]
   rw[q]at kk
   exact kk.2 4 rfl c6 rfl H1 s1 e he
  have hq:dGo "on" S z=both S λl t=>match fnd (mvs l t) ("on",e)with |some b=>(.ok (txT b),(some l,some b))|none=>(.error 1,S):=by unfold dGo;rw[he]
  rw[hq]at kk
  refine⟨by show 2<=sizeLine;decide,λm nm=>?_⟩
  have s2:=s1.trans (eN (o:=.tup [.str "on",.int e]) nm)
  have hm:=eO (H:=H1) (a:=m) (o:=.tup [.str "on",.int e])
  generalize upd H1 m _=H2 at s2 hm ⊢
  have hD:=hD.same s2
  have kk:=kk.same s2
  obtain⟨dx,v,u,hd,hv,hu⟩:=hD.at_
  refine⟨_,rfl,_,rfl,d,dx,v,u,rfl,hd,λvn=>?_,λvn H3 s3 e he=>?_⟩
  rotate_left
  ·rw[qu ((gJ hv).mp vn)]at kk
   exact kk.2 0 rfl c1 rfl H3 s3 e he
  obtain⟨l,hl⟩:∃ l,S.1=some l:=by
   cases q:S.1 with
   |none=>exact absurd ((gJ hv).mpr q) vn
   |some l=>exact⟨l,rfl⟩
  have il:=hS.l l hl
  have ok:=(DOk.lok hS hl)
  refine⟨_,rfl,d,dx,v,u,rfl,hd,λvn un=>?_,λvn'=>absurd vn' vn,λ_ un H3 s3 e he=>?_⟩
  rotate_left
  ·rw[rA hl ((iL hu).mp un)]at kk
   exact kk.2 5 rfl c2 rfl H3 s3 e he
  obtain⟨t,ht⟩:∃ t,S.2=some t:=by
   cases q:S.2 with
   |none=>exact absurd ((iL hu).mpr q) un
   |some l=>exact⟨l,rfl⟩
  obtain⟨l',hl',it⟩:=hS.t t ht
  rw[hl]at hl'
  cases hl'
  rw[tJ hl ht]at kk
  rw[hl]at hv
  rw[ht]at hu
  have hv:Da K (ip p H2) (dL l) v:=hv
  have hu:Da K (ip p H2) (dI t) u:=hu
  have oN:=isT.okN il it
  refine⟨_,rfl,v,u,.ref m,l,t,("on",e),rfl,Da.same fZ hv,Da.same fZ hu,gd.mpr ⟨m,_,rfl,SqT.of hm,Dgs.two (nN.mpr rfl) (gj.mpr rfl)⟩,(by first |exact mE (.inl rfl)|exact mE (.inr rfl)),ok,it.1,by have:=oN.1;omega,λb hb q H3 s3 nq hq3=>?_,λhn H3 s3 e he=>?_⟩
  ·rw[hb]at kk
   have hd3:=s3 _ _ hd
   have qd:q≠d:=cB (ft hd nq)
   obtain⟨mm,hmm,_,rfl⟩:∃ mm∈mvs l t,mm.1=(Str.ofString "on",e)/\mm.2=b:=by
    unfold fnd at hb
    obtain⟨mm,h1,h2⟩:=cH.mp hb
    exact⟨mm,cT h1,by simpa using List.find?_some h1,h2⟩
   obtain⟨T2,l2,n2⟩:=FL ok it.2 it.1 hmm
   refine⟨d,dx,v,u,.ref q,_,rfl,hd3,iZ (by rw[nM qd];exact hq3),isT.okN il ⟨n2,T2⟩,λH4 s4=>?_⟩
   have li3:=LI.same s3 hD.li
   refine kk.1 _ rfl H4 ((Oth.upd (eW.oth s3)).trans (eW.oth s4)) (Dsk.same ⟨⟨dx,v,.ref q,eO,?_,?_⟩,hD.pd,LI.upd li3 (.inl ⟨_,_,_,rfl⟩)⟩ s4)
   ·rw[kK hD.pd]
    exact Da.same (h8 s3) hv
   ·rw[kK hD.pd]
    refine iZ ?_
    rw[iX]
    ·exact hq3
    ·intro z
     rcases hD.li q z with⟨_,_,_,e⟩|⟨_,e⟩<;>rw[nq]at e<;>cases e
  ·rw[hn]at kk
   exact kk.2 1 rfl c3 rfl H3 s3 e he
theorem By (F:Fn K mg "go_back" sN ["desk","rest"] f fd)(fP:Fn K mg "read_end" j6 ["text"] f1 fd1)(gL:eX P w K mg base (CXr P w base) 2 f1 fd1 ["text"] (rJ c6))
  (eV:Fn K mg "kept_line" gu ["desk"] f2 fd2) (fm:eX P w K mg base (CXr P w base) 1 f2 fd2 ["desk"] (pI C c1)) (eZ:Fn K mg "kept_train" gz ["desk"] f3 fd3) (fq:eX P w K mg base (CXr P w base) 2 f3 fd3 ["desk"] (qU C c1 c2))
  (m7:Fn K mg "done" vk ["line","train","move"] f4 fd4) (tQ:eX P w K mg base (CXr P w base) 4 f4 fd4 ["line","train","move"] (yB K c3)) (fY:Fn K mg "keep_shown" jI ["desk","train"] f5 fd5) (g8:eX P w K mg base CX0 4 f5 fd5 ["desk","train"] (Cb K C)):
  eX P w K mg base (CXr P w base) 5 f fd ["desk","rest"] (lE K C [c1,c3,c4,c7,c6,c2,c5] 800 (dGo "back")):=by
 refine F.F.okX vj (λvs H Q E h=>?_) (λcdv A outer s H vs Q E hr h=>?_)
 ·obtain⟨d,z,S,p,rfl,_⟩:=h;rfl
 ·obtain⟨d,z,S,p,rfl,hD,hS,hz,kk⟩:=h
  refine⟨_,(eP (fk (i:=2) vj.nd rfl (Or.inl rfl) (iq (eL eU (eL (eS gL (hr.mono (by decide)) rfl fP.m fP.F.kp fP.b .nil fj (eL (pv 1) eM)) eM))))
 (eQ (fb (eS g8 (hr.mono (by decide)) rfl fY.m fY.F.kp fY.b .nil fo (eL (pv 0) (eL (eS tQ (hr.mono (by decide)) rfl m7.m m7.F.kp m7.b .nil fj (eL (eS fm (hr.mono (by decide)) rfl eV.m eV.F.kp eV.b .nil fj (eL (pv 0) eM)) (eL (eS fq (hr.mono (by decide)) rfl eZ.m eZ.F.kp eZ.b .nil fj (eL (pv 0) eM)) (eL (pv 2) eM)))) eM)))))),?_⟩
  refine⟨_,rfl,z,rfl,by omega,λe he H1 s1=>?_,λhn H1 s1 e he=>?_⟩
  rotate_left
  ·have q:dGo "back" S z=(.error 4,S):=by unfold dGo;rw[hn]
   rw[q]at kk
   exact kk.2 4 rfl c6 rfl H1 s1 e he
  have hq:dGo "back" S z=both S λl t=>match fnd (mvs l t) ("back",e)with |some b=>(.ok (txT b),(some l,some b))|none=>(.error 1,S):=by unfold dGo;rw[he]
  rw[hq]at kk
  refine⟨by show 2<=sizeLine;decide,λm nm=>?_⟩
  have s2:=s1.trans (eN (o:=.tup [.str "back",.int e]) nm)
  have hm:=eO (H:=H1) (a:=m) (o:=.tup [.str "back",.int e])
  generalize upd H1 m _=H2 at s2 hm ⊢
  have hD:=hD.same s2
  have kk:=kk.same s2
  obtain⟨dx,v,u,hd,hv,hu⟩:=hD.at_
  refine⟨_,rfl,_,rfl,d,dx,v,u,rfl,hd,λvn=>?_,λvn H3 s3 e he=>?_⟩
  rotate_left
  ·rw[qu ((gJ hv).mp vn)]at kk
   exact kk.2 0 rfl c1 rfl H3 s3 e he
  obtain⟨l,hl⟩:∃ l,S.1=some l:=by
   cases q:S.1 with
   |none=>exact absurd ((gJ hv).mpr q) vn
   |some l=>exact⟨l,rfl⟩
  have il:=hS.l l hl
  have ok:=(DOk.lok hS hl)
  refine⟨_,rfl,d,dx,v,u,rfl,hd,λvn un=>?_,λvn'=>absurd vn' vn,λ_ un H3 s3 e he=>?_⟩
  rotate_left
  ·rw[rA hl ((iL hu).mp un)]at kk
   exact kk.2 5 rfl c2 rfl H3 s3 e he
  obtain⟨t,ht⟩:∃ t,S.2=some t:=by
   cases q:S.2 with
   |none=>exact absurd ((iL hu).mpr q) un
   |some l=>exact⟨l,rfl⟩
  obtain⟨l',hl',it⟩:=hS.t t ht
  rw[hl]at hl'
  cases hl'
  rw[tJ hl ht]at kk
  rw[hl]at hv
  rw[ht]at hu
  have hv:Da K (ip p H2) (dL l) v:=hv
  have hu:Da K (ip p H2) (dI t) u:=hu
  have oN:=isT.okN il it
  refine⟨_,rfl,v,u,.ref m,l,t,("back",e),rfl,Da.same fZ hv,Da.same fZ hu,gd.mpr ⟨m,_,rfl,SqT.of hm,Dgs.two (nN.mpr rfl) (gj.mpr rfl)⟩,(by first |exact mE (.inl rfl)|exact mE (.inr rfl)),ok,it.1,by have:=oN.1;omega,λb hb q H3 s3 nq hq3=>?_,λhn H3 s3 e he=>?_⟩
  ·rw[hb]at kk
   have hd3:=s3 _ _ hd
   have qd:q≠d:=cB (ft hd nq)
   obtain⟨mm,hmm,_,rfl⟩:∃ mm∈mvs l t,mm.1=(Str.ofString "back",e)/\mm.2=b:=by
    unfold fnd at hb
    obtain⟨mm,h1,h2⟩:=cH.mp hb
    exact⟨mm,cT h1,by simpa using List.find?_some h1,h2⟩
   obtain⟨T2,l2,n2⟩:=FL ok it.2 it.1 hmm
   refine⟨d,dx,v,u,.ref q,_,rfl,hd3,iZ (by rw[nM qd];exact hq3),isT.okN il ⟨n2,T2⟩,λH4 s4=>?_⟩
   have li3:=LI.same s3 hD.li
   refine kk.1 _ rfl H4 ((Oth.upd (eW.oth s3)).trans (eW.oth s4)) (Dsk.same ⟨⟨dx,v,.ref q,eO,?_,?_⟩,hD.pd,LI.upd li3 (.inl ⟨_,_,_,rfl⟩)⟩ s4)
   ·rw[kK hD.pd]
    exact Da.same (h8 s3) hv
   ·rw[kK hD.pd]
    refine iZ ?_
    rw[iX]
    ·exact hq3
    ·intro z
     rcases hD.li q z with⟨_,_,_,e⟩|⟨_,e⟩<;>rw[nq]at e<;>cases e
  ·rw[hn]at kk
   exact kk.2 1 rfl c3 rfl H3 s3 e he
theorem wU (F:Fn K mg "tell_train" oO ["desk"] f fd)(gG:Fn K mg "show_train" jH ["train"] f1 fd1)(jM:eX P w K mg base CX0 3 f1 fd1 ["train"] (nX K))(eZ:Fn K mg "kept_train" gz ["desk"] f3 fd3)(fq:eX P w K mg base (CXr P w base) 2 f3 fd3 ["desk"] (qU C c1 c2)):
  eX P w K mg base (CXr P w base) 4 f fd ["desk"] (nY K C [c1,c3,c4,c7,c6,c2,c5] pM):=by
 refine F.F.okX wG (λvs H Q E h=>?_) (λcdv A outer s H vs Q E hr h=>?_)
 ·obtain⟨d,S,p,rfl,_⟩:=h;rfl
 ·obtain⟨d,S,p,rfl,hD,hS,kk⟩:=h
  unfold pM at kk
  obtain⟨dx,v,u,hd,hv,hu⟩:=hD.at_
  refine⟨_,(eQ (fb (eS jM (hr.mono (by decide)) rfl gG.m gG.F.kp gG.b .nil fo (eL (eS fq (hr.mono (by decide)) rfl eZ.m eZ.F.kp eZ.b .nil fj (eL (pv 0) eM)) eM)))),?_⟩
  refine⟨_,rfl,d,dx,v,u,rfl,hd,λvn un=>?_,λvn H3 s3 e he=>?_,λvn un H3 s3 e he=>?_⟩
  rotate_left
  ·rw[qu ((gJ hv).mp vn)]at kk
   exact kk.2 0 rfl c1 rfl H3 s3 e he
  ·obtain⟨l,hl⟩:∃ l,S.1=some l:=by
    cases q:S.1 with
    |none=>exact absurd ((gJ hv).mpr q) vn
    |some l=>exact⟨l,rfl⟩
   rw[rA hl ((iL hu).mp un)]at kk
   exact kk.2 5 rfl c2 rfl H3 s3 e he
  obtain⟨t,ht⟩:∃ t,S.2=some t:=by
   cases q:S.2 with
   |none=>exact absurd ((iL hu).mpr q) un
   |some l=>exact⟨l,rfl⟩
  obtain⟨l,hl,it⟩:=hS.t t ht
  have il:=hS.l l hl
  rw[tJ hl ht]at kk
  have hu0:=hu
  rw[ht]at hu
  have hu:Da K (ip p H) (dI t) u:=hu
  have oN:=isT.okN il it
  refine⟨u,t,rfl,Da.same fZ hu,oN,λH1 s1=>kk.1 _ rfl H1 (eW.oth s1) (hD.same s1)⟩
theorem wR (F:Fn K mg "turn_round" oM ["desk"] f fd)(eZ:Fn K mg "kept_train" gz ["desk"] f3 fd3)(fq:eX P w K mg base (CXr P w base) 2 f3 fd3 ["desk"] (qU C c1 c2))(oz:Fn K mg "turned" pT ["train"] f4 fd4)(wt:eX P w K mg base CX0 2 f4 fd4 ["train"] (zT K))(fY:Fn K mg "keep_shown" jI ["desk","train"] f5 fd5)(g8:eX P w K mg base CX0 4 f5 fd5 ["desk","train"] (Cb K C)):
  eX P w K mg base (CXr P w base) 5 f fd ["desk"] (nY K C [c1,c3,c4,c7,c6,c2,c5] tG):=by
 refine F.F.okX wF (λvs H Q E h=>?_) (λcdv A outer s H vs Q E hr h=>?_)
 ·obtain⟨d,S,p,rfl,_⟩:=h;rfl
 ·obtain⟨d,S,p,rfl,hD,hS,kk⟩:=h
  unfold tG at kk
  obtain⟨dx,v,u,hd,hv,hu⟩:=hD.at_
  refine⟨_,(eQ (fb (eS g8 (hr.mono (by decide)) rfl fY.m fY.F.kp fY.b .nil fo (eL (pv 0) (eL (eS wt (hr.mono (by decide)) rfl oz.m oz.F.kp oz.b .nil fo (eL (eS fq (hr.mono (by decide)) rfl eZ.m eZ.F.kp eZ.b .nil fj (eL (pv 0) eM)) eM)) eM))))),?_⟩
  refine⟨_,rfl,?_⟩
  refine⟨_,rfl,d,dx,v,u,rfl,hd,λvn un=>?_,λvn H3 s3 e he=>?_,λvn un H3 s3 e he=>?_⟩
  rotate_left
  ·rw[qu ((gJ hv).mp vn)]at kk
   exact kk.2 0 rfl c1 rfl H3 s3 e he
  ·obtain⟨l,hl⟩:∃ l,S.1=some l:=by
    cases q:S.1 with
    |none=>exact absurd ((gJ hv).mpr q) vn
    |some l=>exact⟨l,rfl⟩
   rw[rA hl ((iL hu).mp un)]at kk
   exact kk.2 5 rfl c2 rfl H3 s3 e he
  obtain⟨t,ht⟩:∃ t,S.2=some t:=by
   cases q:S.2 with
   |none=>exact absurd ((iL hu).mpr q) un
   |some l=>exact⟨l,rfl⟩
  obtain⟨l,hl,it⟩:=hS.t t ht
  have il:=hS.l l hl
  rw[tJ hl ht]at kk
  have hu0:=hu
  rw[ht]at hu
  have hu:Da K (ip p H) (dI t) u:=hu
  have oN:=isT.okN il it
  refine⟨u,t,rfl,Da.same fZ hu,by have:=oN.1;omega,λq H3 s3 nq hq3=>?_⟩
  have hd3:=s3 _ _ hd
  have qd:q≠d:=cB (ft hd nq)
  have ok:=(DOk.lok hS hl)
  have T2:isT l (t.reverse.map oth):=⟨by simpa using it.1,Dw ok it.2⟩
  refine⟨d,dx,v,u,.ref q,_,rfl,hd3,iZ (by rw[nM qd];exact hq3),isT.okN il T2,λH4 s4=>?_⟩
  have li3:=LI.same s3 hD.li
  refine kk.1 _ rfl H4 ((Oth.upd (eW.oth s3)).trans (eW.oth s4)) (Dsk.same ⟨⟨dx,v,.ref q,eO,?_,?_⟩,hD.pd,LI.upd li3 (.inl ⟨_,_,_,rfl⟩)⟩ s4)
  ·rw[kK hD.pd]
   rw[hl]at hv
   exact VL.same (h8 s3) hv
  ·rw[kK hD.pd]
   refine iZ ?_
   rw[iX]
   ·exact hq3
   ·intro z
    rcases hD.li q z with⟨_,_,_,e⟩|⟨_,e⟩<;>rw[nq]at e<;>cases e
theorem wW (F:Fn K mg "tell_moves" mf ["desk"] f fd)(lh:Fn K mg "show_run" mI ["run"] f1 fd1)(rC:eX P w K mg base CX0 3 f1 fd1 ["run"] (zS K))(eV:Fn K mg "kept_line" gu ["desk"] f2 fd2)(fm:eX P w K mg base (CXr P w base) 1 f2 fd2 ["desk"] (pI C c1))(eZ:Fn K mg "kept_train" gz ["desk"] f3 fd3)(fq:eX P w K mg base (CXr P w base) 2 f3 fd3 ["desk"] (qU C c1 c2))(ie:Fn K mg "moves_of" mK ["line","train"] f4 fd4)(kZ:eX P w K mg base CX0 3 f4 fd4 ["line","train"] (sM K)):
  eX P w K mg base (CXr P w base) 4 f fd ["desk"] (nY K C [c1,c3,c4,c7,c6,c2,c5] lT):=by
 refine F.F.okX wH (λvs H Q E h=>?_) (λcdv A outer s H vs Q E hr h=>?_)
 ·obtain⟨d,S,p,rfl,_⟩:=h;rfl
 ·obtain⟨d,S,p,rfl,hD,hS,kk⟩:=h
  unfold lT at kk
  obtain⟨dx,v,u,hd,hv,hu⟩:=hD.at_
  refine⟨_,(eQ (fb (eS rC (hr.mono (by decide)) rfl lh.m lh.F.kp lh.b .nil fo (eL (og (gc (eS kZ (hr.mono (by decide)) rfl ie.m ie.F.kp ie.b .nil fo (eL (eS fm (hr.mono (by decide)) rfl eV.m eV.F.kp eV.b .nil fj (eL (pv 0) eM)) (eL (eS fq (hr.mono (by decide)) rfl eZ.m eZ.F.kp eZ.b .nil fj (eL (pv 0) eM)) eM)))) rfl lU (.tup (.cons (.name (by decide)) (.cons (.name (by decide)) .nil))) (λ_ _ _ _=>(jk (n:=2) rfl (fu (fe (i:=0) lU.nd rfl (Or.inl rfl)) (fu (fe (i:=1) lU.nd rfl (Or.inl rfl)) gN)))) (λ_ _ _ _=>gU) (λ_ _ _ _=>(pv 0))) eM)))),?_⟩
  refine⟨_,rfl,d,dx,v,u,rfl,hd,λvn=>?_,λvn H3 s3 e he=>?_⟩
  rotate_left
  ·rw[qu ((gJ hv).mp vn)]at kk
   exact kk.2 0 rfl c1 rfl H3 s3 e he
  refine⟨_,rfl,d,dx,v,u,rfl,hd,λvn un=>?_,λvn H3 s3 e he=>?_,λvn un H3 s3 e he=>?_⟩
  rotate_left
  ·rw[qu ((gJ hv).mp vn)]at kk
   exact kk.2 0 rfl c1 rfl H3 s3 e he
  ·obtain⟨l,hl⟩:∃ l,S.1=some l:=by
    cases q:S.1 with
    |none=>exact absurd ((gJ hv).mpr q) vn
    |some l=>exact⟨l,rfl⟩
   rw[rA hl ((iL hu).mp un)]at kk
   exact kk.2 5 rfl c2 rfl H3 s3 e he
  obtain⟨t,ht⟩:∃ t,S.2=some t:=by
   cases q:S.2 with
   |none=>exact absurd ((iL hu).mpr q) un
   |some l=>exact⟨l,rfl⟩
  obtain⟨l,hl,it⟩:=hS.t t ht
  have il:=hS.l l hl
  rw[tJ hl ht]at kk
  have hu0:=hu
  rw[ht]at hu
  have hu:Da K (ip p H) (dI t) u:=hu
  have oN:=isT.okN il it
  have hv0:=hv
  rw[hl]at hv
  have hv:Da K (ip p H) (dL l) v:=hv
  have ok:=(DOk.lok hS hl)
  refine⟨v,u,l,t,rfl,Da.same fZ hv,Da.same fZ hu,ok,it.1,by have:=oN.1;omega,λpm vm H1 s1 npm hpm Dm=>?_⟩
  have ml:=Cv ok t
  refine⟨pm,rfl,⟨_,SqL.of hpm⟩,λq nq=>AE (K:=K) hpm Dm (by omega) nq λus H2 s2 hq2 D2=>?_⟩
  refine⟨.ref q,(mvs l t).map (·.1),rfl,iY.mpr ⟨q,us,rfl,SqL.of hq2,Das.same (qe (p:=q)) D2⟩,⟨by rw[aa];omega,λk hk=>?_⟩,λH3 s3=>kk.1 _ rfl H3 (eW.oth (s1.trans (s2.trans s3))) (hD.same (s1.trans (s2.trans s3)))⟩
  obtain⟨m,hm,rfl⟩:=aA.mp hk
  obtain⟨w1,w2,w3⟩:=xV ok hm
  exact⟨w1,w2,by have:=il.2.1;omega⟩
end
noncomputable def words:List Str:=["line","move","piece","row","text","train","many"]
noncomputable def Cc (cs:List Addr):Sp:=λvs H Q _=>∃ (e c:Addr) (j:Nat) (x:Str),vs = [.ref e]/\H e=some (BQ e c)/\cs[j]? = some c/\words[j]? = some x/\∀ H',eW H H'->Q (.str x) H'
noncomputable def Cd (C:Addr):Sp:=λvs H Q _=>∃ x dx:Addr,vs = [.ref x]/\H x=some (.ins C dx [])/\Q .non (upd H x (.ins C dx [("line",.non),("train",.non)]))
noncomputable abbrev prt (row:Str):=Txt.partition row (chS 32)
noncomputable def yv (P:Program)(w:World)(K:PySem.W.Frag)(mg:Str->Option Value)(base:Heap)(kr ka:List (Str×Addr))(c7:Addr):Sp:=λvs H Q E=>∃ (d:Addr) (row:Str),vs = [.ref d,.str row]/\row.length<=100000/\
 (∀ f,(prt row).2.2≠Str.empty->jo kr (prt row).1=some f->∃ sp,FnV P w K mg base (CXr P w base) 7 f sp/\∀ H',eW H H'->sp [.ref d,.str (prt row).2.2] H' Q E)/\
 (∀ f,((prt row).2.2=Str.empty\/jo kr (prt row).1=none)->(prt row).2.1=Str.empty->jo ka (prt row).1=some f->∃ sp,FnV P w K mg base (CXr P w base) 7 f sp/\∀ H',eW H H'->sp [.ref d] H' Q E)/\
 (((prt row).2.2=Str.empty\/jo kr (prt row).1=none)->((prt row).2.1≠Str.empty\/jo ka (prt row).1=none)->∀ H',eW H H'->∀ e,H' e=none->E (.ref c7) (some e) H')
theorem Bi:((z.length:Int) !=0)=true↔z≠Str.empty:=by
 constructor
 ·intro h e;rw[e]at h;revert h;decide
 ·intro h
  have:z.length≠0:=λe=>h (oG (by rw[yt.mp e];rfl))
  simpa using this
theorem yR (row:Str):(prt row).1.length<=row.length/\(prt row).2.1.length<=row.length/\(prt row).2.2.length<=row.length:=by
 have h:=bF Str.length (PySem.StrLaws.partition_sum row (chS 32))
 rw[ag,ag]at h
 show(Txt.partition row (chS 32)).1.length<=_/\(Txt.partition row (chS 32)).2.1.length<=_/\(Txt.partition row (chS 32)).2.2.length<=_
 exact⟨by omega,by omega,by omega⟩
noncomputable abbrev oU:Stmt:=top 102
theorem pS:fh ["_law_kept","_law_some"] ["_law_kept"] (eT oU):=⟨rfl,rfl,rfl,by decide +kernel,rfl,by decide +kernel,by decide +kernel⟩
noncomputable abbrev iA:Stmt:=inClass (top 83) 0
theorem yO:fh ["self"] ["self"] (eT iA):=⟨rfl,rfl,rfl,by decide +kernel,rfl,by decide +kernel,by decide +kernel⟩
noncomputable abbrev iH:Stmt:=inClass (top 83) 1
theorem kg:fh ["self","row","word","blank","rest","deed","lone_deed"] ["self","row"] (eT iH):=⟨rfl,rfl,rfl,by decide +kernel,rfl,by decide +kernel,by decide +kernel⟩
section
variable {P:Program}{w:World}{K:PySem.W.Frag}{mg:Str->Option Value}{base:Heap}{f:Addr}{fd:FuncData}{D c1 c2 c3 c4 c5 c6 c7 C fi fs oa or_:Addr}{kr ka:List (Str×Addr)}
theorem JH (XS:Xs K mg D c1 c2 c3 c4 c5 c6 c7):∀ c∈ [c1,c3,c4,c7,c6,c2,c5],ExC K c:=λc hc=>by
 simp only[ay,aW,b9]at hc
 rcases hc with rfl |rfl |rfl |rfl |rfl |rfl |rfl
 ·exact XS.jq.e
 ·exact XS.tN.e
 ·exact XS.uS.e
 ·exact XS.Dj.e
 ·exact XS.kO.e
 ·exact XS.iK.e
 ·exact XS.Df.e
theorem zw:[c1,c3,c4,c7,c6,c2,c5].Perm [c1,c2,c3,c4,c5,c6,c7]:=by
 refine List.Perm.cons _ ?_
 have h1:[c3,c4,c7,c6,c2,c5].Perm (c2 :: [c3,c4,c7,c6,c5]):=dq (l₁:=[c3,c4,c7,c6]) (l₂:=[c5])
 refine h1.trans (List.Perm.cons _ (List.Perm.cons _ (List.Perm.cons _ ?_)))
 have h2:[c7,c6,c5].Perm (c5 :: [c7,c6]):=dq (l₁:=[c7,c6]) (l₂:=[])
 exact h2.trans (List.Perm.cons _ (List.Perm.swap _ _ _))
theorem bits (nd:cs.Nodup){c:Addr}{j:Nat}(hj:cs[j]? = some c):cs.map (λd=>decide (c=d))=(List.range cs.length).map λi=>decide (i=j):=by
 refine List.ext_getElem? λi=>?_
 rw[ah,ah]
 by_cases hi:i<cs.length
 ·rw[List.getElem?_range hi,aO hi]
  obtain⟨hl,e⟩:=af.mp hj
  show some (decide (c=cs[i]))=some (decide (i=j))
  congr 1
  by_cases h:i=j
  ·subst h;simp[e]
  ·have:c≠cs[i]:=λz=>h ((List.getElem_inj nd).mp (z.symm.trans e.symm))
   simp[h,this]
 ·rw[List.getElem?_eq_none (by omega),List.getElem?_eq_none (by simpa using hi)];rfl
theorem bit_count:∀ j,j<7->((List.range 7).map λi=>decide (i=j)).count true=1:=by decide
theorem JM:∀ j,j<7->((List.range 7).map λi=>decide (i=j))[j]? = some true:=by decide
theorem JL:∀ j,j<7->∀ m,m<j->((List.range 7).map λi=>decide (i=j))[m]? = some false:=by decide
theorem Ao (F:Fn K mg "_law_kind" oU ["_law_kept"] f fd)(XS:Xs K mg D c1 c2 c3 c4 c5 c6 c7)(B:Bl mg):eX P w K mg base CX0 1 f fd ["_law_kept"] (Cc [c1,c3,c4,c7,c6,c2,c5]):=by
 refine F.F.ok pS (λvs H Q E h=>?_) (λcdv A outer s H vs Q E hr h=>?_)
 ·obtain⟨e,c,j,x,rfl,_⟩:=h;rfl
 ·obtain⟨e,c,j,x,rfl,he,hc,hx,q⟩:=h
  have hm0:c∈ [c1,c3,c4,c7,c6,c2,c5]:=aB hc
  have hm:c∈ [c1,c2,c3,c4,c5,c6,c7]:=zw.mem_iff.mp hm0
  have hj:j<7:=(af.mp hc).1
  have hE:=JH XS c hm0
  have k1:=XS.eq c hm
  have hb:=bits (zw.nodup_iff.mpr XS.nd) hc
  refine⟨_,(eP (fF (fC (nI (pv 0)))
 (eQ (fb eU)) fc)
 (eP (fk (i:=1) pS.nd rfl (Or.inl rfl) (fN (eL (fA iC rfl B.isinstance cp (eL (pv 0) (eL (jJ (v:=.ref _) rfl XS.jq.m rfl) eM))) (eL (fA iC rfl B.isinstance cp (eL (pv 0) (eL (jJ (v:=.ref _) rfl XS.tN.m rfl) eM))) (eL (fA iC rfl B.isinstance cp (eL (pv 0) (eL (jJ (v:=.ref _) rfl XS.uS.m rfl) eM))) (eL (fA iC rfl B.isinstance cp (eL (pv 0) (eL (jJ (v:=.ref _) rfl XS.Dj.m rfl) eM))) eM))))))
 (eP (fk (i:=1) pS.nd rfl (Or.inl rfl) (eY iP (pv 1) (fN (eL (fA iC rfl B.isinstance cp (eL (pv 0) (eL (jJ (v:=.ref _) rfl XS.kO.m rfl) eM))) (eL (fA iC rfl B.isinstance cp (eL (pv 0) (eL (jJ (v:=.ref _) rfl XS.iK.m rfl) eM))) (eL (fA iC rfl B.isinstance cp (eL (pv 0) (eL (jJ (v:=.ref _) rfl XS.Df.m rfl) eM))) eM))))))
 (eP (fF (PW.pt (jS (fL tY (jt bj PySem.F.slot_list_count PySem.F.type_list_count FP (pv 1) (eL qX eM)) eR (gZ _)) (j9 (nG (rk (fA iC rfl B.isinstance cp (eL (pv 0) (eL (Cn (v:=.ty "ValueError") rfl XS.VE uD rfl) eM))))))))
 (eQ (fb eU)) fc)
 (eQ (fb (fU fM (fN (eL eU (eL eU (eL eU (eL eU (eL eU (eL eU (eL eU eM)))))))) (jt bj PySem.F.slot_list_index PySem.F.type_list_index FO (pv 1) (eL qX eM)) (λ_ _=>rfl)))))))),?_⟩
  refine⟨_,rfl,_,rfl,kJ ?_⟩
  refine⟨_,rfl,e,c,_,_,_,rfl,he,hE,rfl,λ_ h=>h,k1 c1 (by simp),_,rfl,e,c,_,_,_,rfl,he,hE,rfl,λ_ h=>h,k1 c3 (by simp),_,rfl,e,c,_,_,_,rfl,he,hE,rfl,λ_ h=>h,k1 c4 (by simp),
   _,rfl,e,c,_,_,_,rfl,he,hE,rfl,λ_ h=>h,k1 c7 (by simp),by show 4<=sizeLine;decide,λp1 n1=>?_⟩
  have s1:=eN (o:=.lst [.bl (decide (c=c1)),.bl (decide (c=c3)),.bl (decide (c=c4)),.bl (decide (c=c7))]) n1
  refine⟨_,rfl,_,rfl,e,c,_,_,_,rfl,s1 _ _ he,hE,rfl,λ_ h=>h,k1 c6 (by simp),_,rfl,e,c,_,_,_,rfl,s1 _ _ he,hE,rfl,λ_ h=>h,k1 c2 (by simp),_,rfl,e,c,_,_,_,rfl,s1 _ _ he,hE,rfl,λ_ h=>h,k1 c5 (by simp),
   by show 3<=sizeLine;decide,λp2 n2=>?_⟩
  have s2:=eN (o:=.lst [.bl (decide (c=c6)),.bl (decide (c=c2)),.bl (decide (c=c5))]) n2
  refine⟨p1,p2,_,_,rfl,rfl,s2 _ _ eO,eO,by show 7<=sizeLine;decide,λp3 n3=>?_⟩
  have S12:=s1.trans s2
  generalize upd (upd H p1 _) p2 _=G at n3 S12 ⊢
  have s3:=eN (o:=.lst (([c1,c3,c4,c7,c6,c2,c5].map λd=>decide (c=d)).map V.bl)) n3
  have hp3:upd G p3 (.lst (([c1,c3,c4,c7,c6,c2,c5].map λd=>decide (c=d)).map V.bl)) p3=some (.lst (((List.range 7).map λi=>decide (i=j)).map V.bl)):=by
   rw[eO,hb];rfl
  have S:=S12.trans s3
  refine⟨_,rfl,.inl ⟨rfl,_,SqL.of hp3⟩,p3,_,true,rfl,rfl,hp3,rfl,_,rfl,fG (λz=>?_) (λ_=>?_)⟩
  ·have Sk:=bit_count j hj
   exact absurd z (by
    show ¬((!decide (V.int (((((List.range 7).map λi=>decide (i=j)).count true:Nat)):Int)=V.int 1))=true)
    rw[Sk];simp)
  refine⟨_,rfl,e,c,_,_,true,rfl,S _ _ he,hE,rfl,λ_ h=>h,XS.val c hm,_,rfl,kJ ?_⟩
  refine⟨by show 7<=sizeLine;decide,λp4 n4=>?_⟩
  have s4:=eN (o:=.lst [.str "line",.str "move",.str "piece",.str "row",.str "text",.str "train",.str "many"]) n4
  refine⟨_,rfl,.inl ⟨rfl,_,SqL.of (s4 _ _ hp3)⟩,p3,_,true,j,rfl,rfl,s4 _ _ hp3,JM j hj,JL j hj,?_⟩
  refine⟨p4,_,_,_,rfl,rfl,SqL.of eO,?_,q _ (S.trans s4)⟩
  have e:[V.str "line",.str "move",.str "piece",.str "row",.str "text",.str "train",.str "many"][j]? = some (V.str x):=by
   have e:[V.str "line",.str "move",.str "piece",.str "row",.str "text",.str "train",.str "many"]=words.map V.str:=rfl
   rw[e,ah,hx];rfl
  exact ik e
theorem zb (F:Fm K "__init__" "Desk.__init__" iA ["self"] f fd)(DK:DkK K mg C fi fs):eX P w K mg base CX0 1 f fd ["self"] (Cd C):=by
 refine F.F.ok yO (λvs H Q E h=>?_) (λcdv A outer s H vs Q E hr h=>?_)
 ·obtain⟨x,dx,rfl,_⟩:=h;rfl
 ·obtain⟨x,dx,rfl,hx,k⟩:=h
  refine⟨_,(eP (sO (pv 0) ir rfl)
 (eQ (sO (pv 0) ir rfl))),?_⟩
  refine⟨_,rfl,x,C,dx,_,rfl,hx,DK.cl,DK.nl,by show 0<1000;decide,?_⟩
  refine⟨_,rfl,x,C,dx,_,rfl,eO,DK.cl,DK.nt,by show 1<1000;decide,?_⟩
  have h:¬(Str.ofString "line")=Str.ofString "train" :=by decide +kernel
  have e:lO "train" V.non (lO "line" V.non []) = [(Str.ofString "line",.non),(Str.ofString "train",.non)]:=by
   show lO "train" V.non [(Str.ofString "line",V.non)]=_
   unfold lO
   rw[ak h]
   rfl
  rw[e,qC]
  exact k
theorem Aq (F:Fm K "say" "Desk.say" iH ["self","row"] f fd)(XS:Xs K mg D c1 c2 c3 c4 c5 c6 c7)(nz:BX P w K mg "WITH_REST" or_ kr)(Bd:(or_==sysModules)=false)(uR:BX P w K mg "ALONE" oa ka)(HH:(oa==sysModules)=false):
  eX P w K mg base (CXr P w base) 8 f fd ["self","row"] (yv P w K mg base kr ka c7):=by
 refine F.F.okX kg (λvs H Q E h=>?_) (λcdv A outer s H vs Q E hr h=>?_)
 ·obtain⟨d,row,rfl,_⟩:=h;rfl
 ·obtain⟨d,row,rfl,hl,k1,k2,k3⟩:=h
  refine⟨_,(eP (nH (jt aS dX PySem.F.type_str_partition se (pv 1) (eL eU eM)) (jk (n:=3) rfl (fu (fe (i:=2) kg.nd rfl (Or.inl rfl)) (fu (fe (i:=3) kg.nd rfl (Or.inl rfl)) (fu (fe (i:=4) kg.nd rfl (Or.inl rfl)) gN)))))
 (eP (fF (PW.pt (oY (pX (pv 4) (λ_=>rfl)) (mn (fC (Co nz Bd rfl (pv 2))))))
 (eP (fk (i:=5) kg.nd rfl (Or.inl rfl) (HS nz rfl (pv 2) (λ_ _=>rfl)))
 (eQ (fb (Ag (k:=7) 5 rfl (Or.inl rfl) (hr.mono (by decide)) fj (eL (pv 0) (eL (pv 4) eM)))))) fc)
 (eP (fF (PW.pt (oY (nG (pX (pv 3) (λ_=>rfl))) (mn (fC (Co uR HH rfl (pv 2))))))
 (eP (fk (i:=6) kg.nd rfl (Or.inl rfl) (HS uR rfl (pv 2) (λ_ _=>rfl)))
 (eQ (fb (Ag (k:=7) 6 rfl (Or.inl rfl) (hr.mono (by decide)) fj (eL (pv 0) eM))))) fc)
 (eQ (gx gh rfl rfl XS.Dj.m XS.Dj.q az (eL eU eM)))))),?_⟩
  refine⟨_,rfl,rfl,_,_,rfl,rfl,by decide,by omega,λp np=>?_⟩
  rw[iD]
  have s1:=eN (o:=.tup [.str (prt row).1,.str (prt row).2.1,.str (prt row).2.2]) np
  have hp:=eO (H:=H) (a:=p) (o:=.tup [.str (prt row).1,.str (prt row).2.1,.str (prt row).2.2])
  generalize upd H p _=H1 at s1 hp ⊢
  refine⟨p,_,rfl,SqT.of hp,rfl,_,_,rfl,_,_,rfl,_,_,rfl,rfl,?_⟩
  obtain⟨p1,p2,p3⟩:=yR row
  have l3:(prt row).2.2.length<=sizeLine:=by rw[aE];omega
  have l2:(prt row).2.1.length<=sizeLine:=by rw[aE];omega
  refine⟨_,rfl,_,⟨l3,rfl⟩,fG (λh1=>⟨_,rfl,_,rfl,_,rfl,fG (λh2=>?A) (λh2=>?B)⟩) (λh1=>kJ ?C)⟩
  case A=>
   obtain⟨g,hg⟩:=eC.mp h2
   obtain⟨sp,FV,hs⟩:=k1 g (Bi.mp h1) hg
   exact⟨_,rfl,_,g,rfl,hg,g,sp,rfl,FV,_,rfl,_,rfl,hs _ s1⟩
  all_goals
   have hno:(prt row).2.2=Str.empty\/jo kr (prt row).1=none:=by
    first
    |exact .inr (by simpa using h2)
    |exact .inl (aU λz=>h1 (Bi.mpr z))
   refine⟨_,rfl,_,⟨l2,rfl⟩,fG (λh3=>⟨_,rfl,_,rfl,_,rfl,fG (λh4=>?_) (λh4=>?_)⟩) (λh3=>kJ ?_)⟩
   ·obtain⟨g,hg⟩:=eC.mp h4
    have h3:(prt row).2.1=Str.empty:=aU λz=>by rw[Bi.mpr z]at h3;cases h3
    obtain⟨sp,FV,hs⟩:=k2 g hno h3 hg
    exact⟨_,rfl,_,g,rfl,hg,g,sp,rfl,FV,_,rfl,hs _ s1⟩
   ·exact⟨by decide,λe he=>k3 hno (.inr (by simpa using h4)) _ s1 e he⟩
   ·exact⟨by decide,λe he=>k3 hno (.inl λz=>h3 (by rw[z];decide)) _ s1 e he⟩
end
noncomputable def txA:Except Nat Str->Str
 |.ok a=>a
 |.error j=>Str.ofString "!" ++ words.getD j Str.empty
noncomputable def uf (P:Program)(w:World)(K:PySem.W.Frag)(mg:Str->Option Value)(base:Heap)(kr ka:List (Str×Addr))(c7 C:Addr)(cs:List Addr)(H:Hp)(d:Addr)(p:Addr->Prop)(row:Str)(r:Ans):Prop:=
 ∀ H' Q E,eW H H'->EE K C cs H' d Q E p r->yv P w K mg base kr ka c7 [.ref d,.str row] H' Q E
noncomputable def B6 (P:Program)(w:World)(K:PySem.W.Frag)(mg:Str->Option Value)(base:Heap)(kr ka:List (Str×Addr))(c7 C:Addr)(cs:List Addr):Sp:=λvs H Q _=>∃ (d:Addr) (row:Str) (S:DS) (p:Addr->Prop) (r:Ans),vs = [.ref d,.str row]/\Dsk K C p H d S/\uf P w K mg base kr ka c7 C cs H d p row r/\
 (∀ j,r.1 = .error j->j<7/\r.2=S)/\∀ H',Oth d H H'->Dsk K C p H' d r.2->Q (.str (txA r.1)) H'
noncomputable abbrev oR:Stmt:=top 103
theorem kf:fh ["_law_desk","_law_row","_law_kept","_law_found","e"] ["_law_desk","_law_row"] (eT oR):=⟨rfl,rfl,rfl,by decide +kernel,rfl,by decide +kernel,by decide +kernel⟩
section
variable {P:Program}{w:World}{K:PySem.W.Frag}{mg:Str->Option Value}{base:Heap}{f:Addr}{fd:FuncData}{D c1 c2 c3 c4 c5 c6 c7 C fi fs oa or_:Addr}{kr ka:List (Str×Addr)}
theorem Am {fds:FuncData}(F:Fn K mg "_law_said" oR ["_law_desk","_law_row"] f fd)(XS:Xs K mg D c1 c2 c3 c4 c5 c6 c7)(B:Bm mg)(DK:DkK K mg C fi fs)(jF:Fm K "say" "Desk.say" iH ["self","row"] fs fds)
  (ke:eX P w K mg base (CXr P w base) 8 fs fds ["self","row"] (yv P w K mg base kr ka c7)) (ll:Fn K mg "_law_kind" oU ["_law_kept"] f1 fd1):
  eX P w K mg base CX0 9 f fd ["_law_desk","_law_row"] (B6 P w K mg base kr ka c7 C [c1,c3,c4,c7,c6,c2,c5]):=by
 have BY:eX P w K mg base CX0 1 f1 fd1 ["_law_kept"] (Cc [c1,c3,c4,c7,c6,c2,c5]):=Ao ll XS B.toBl
 refine F.F.ok kf (λvs H Q E h=>?_) (λcdv A outer s H vs Q E hr h=>?_)
 ·obtain⟨d,row,S,p,r,rfl,_⟩:=h;rfl
 ·obtain⟨d,row,S,p,r,rfl,hD,vY,her,kk⟩:=h
  obtain⟨dx,v,u,hd,hv,hu⟩:=hD.at_
  refine⟨_,(eP (fk (i:=2) kf.nd rfl (Or.inl rfl) ir)
 (eP (fk (i:=3) kf.nd rfl (Or.inl rfl) ir)
 (eP (IK (j:=4) rfl rfl rfl kf.nd rfl rfl rfl XS.EA.m (λpn W E hW=>(eQ (fk (i:=3) kf.nd rfl (Or.inl rfl) (Fx (pv 0) DK.cl DK.say ke (hr.mono (by decide)) jF.b hW (eL (pv 1) eM))))) (λe=>(eQ (fk (i:=2) kf.nd rfl (Or.inl rfl) (pv 4)))))
 (eP (fF (PW.pt (oY (fC (nI (pv 2))) (mn (rk (fA A7 rfl B.isinstance cp (eL (pv 3) (eL (Cn (v:=.ty "str") rfl B.str boot_str rfl) eM)))))))
 (eQ (fb (pv 3))) fc)
 (eQ (fb (eY fV eU (eS BY (hr.mono (by decide)) rfl ll.m ll.F.kp ll.b .nil fo (eL (pv 2) eM))))))))),?_⟩
  refine⟨_,rfl,d,dx,_,rfl,hd,by rfl,_,rfl,vY H _ _ (eW.refl _) ⟨λa ha H1 o1 D1=>?_,λj hj c hc H1 s1 e he=>?_⟩⟩
  ·refine⟨_,rfl,_,rfl,ib ⟨_,rfl,_,_,_,true,rfl,.str a,rfl,_,rfl,ib ⟨_,rfl,?_⟩⟩⟩
   have:=kk H1 o1 D1
   rw[ha]at this
   exact this
  ·obtain⟨j7,e2⟩:=her j hj
   obtain⟨x,hx⟩:∃ x,words[j]? = some x:=⟨words[j]'j7,aO _⟩
   have hm:c∈ [c1,c2,c3,c4,c5,c6,c7]:=zw.mem_iff.mp (aB hc)
   refine⟨e,c,rfl,rfl,XS.cat c hm,⟨_,rfl,⟨_,rfl,_,rfl,kJ (kJ ⟨_,rfl,e,c,j,x,rfl,eO,hc,hx,λH2 s2=>⟨_,_,rfl,rfl,?_,?_⟩⟩)⟩⟩⟩
   ·have:∀ y∈words,y.length<=10:=by decide +kernel
    have h1:=this x (aB hx)
    have h2:(Str.ofString "!").length=1:=by decide +kernel
    rw[aE];omega
   ·have S2:=s1.trans ((eN he).trans s2)
    have:=kk H2 (eW.oth S2) (by rw[e2];exact hD.same S2)
    rw[hj]at this
    have e3:txA (.error j)=Str.ofString "!" ++ x:=by
     show Str.ofString "!" ++ words.getD j Str.empty=_
     rw[ba,hx];rfl
    rw[e3]at this
    exact this
end
open Classical in
noncomputable def EZ (K:PySem.W.Frag):Sp:=λvs H Q _=>∃ (v u:V) (l:Ln) (ns:List Int),vs = [v,u]/\Da K H (dL l) v/\Da K H (dI ns) u/\gI l/\(∀ p∈l.2,p.1≠p.2)/\ns≠ []/\ns.length<=900/\(pQ l ns->∀ H',eW H H'->Q (.bl true) H')/\(¬pQ l ns->∀ H',eW H H'->Q (.bl false) H')
noncomputable abbrev jB:Stmt:=top 101
theorem jZ:fh ["_law_line_here","_law_train_here","_law_pieces","_law_one","_law_other_here"] ["_law_line_here","_law_train_here"] (eT jB):=⟨rfl,rfl,rfl,by decide +kernel,rfl,by decide +kernel,by decide +kernel⟩
theorem nu:gp (eT jB) ["_law_line_here","_law_train_here","_law_pieces","_law_one","_law_other_here"] {kind:=.function,names:=[(Str.ofString ".0",.local),(Str.ofString "_law_end_here",.local)],isGenerator:=false,isCoroutine:=false,more:=[]} ["_law_end_here"] 1 [none]:=⟨rfl,by decide +kernel,by decide +kernel,by decide +kernel,rfl,by decide +kernel,rfl,by decide +kernel⟩
section
variable {P:Program}{w:World}{K:PySem.W.Frag}{mg:Str->Option Value}{base:Heap}{f:Addr}{fd:FuncData}{D c1 c2 c3 c4 c5 c6 c7 C fi fs oa or_:Addr}{kr ka:List (Str×Addr)}
theorem uy (F:Fn K mg "_law_is_train" jB ["_law_line_here","_law_train_here"] f fd)(B:Bm mg)(fE:Fn K mg "_law_joined" iW ["_law_line_here","_law_end_here"] f1 fd1)(fS:Fn K mg "_law_other" ki ["_law_end_here"] f2 fd2):
  eX P w K mg base CX0 2 f fd ["_law_line_here","_law_train_here"] (EZ K):=by
 have jO:eX P w K mg base CX0 1 f1 fd1 ["_law_line_here","_law_end_here"] (qE K):=nL fE B.toBl
 have kx:eX P w K mg base CX0 1 f2 fd2 ["_law_end_here"] lD:=o8 fS
 refine F.F.ok jZ (λvs H Q E h=>?_) (λcdv A outer s H vs Q E hr h=>?_)
 ·obtain⟨v,u,l,ns,rfl,_⟩:=h;rfl
 ·obtain⟨v,u,l,ns,rfl,hv,hu,ok,hnp,hne,hz,k1,k2⟩:=h
  obtain⟨a,rfl,ha⟩:=iJ.mp hu
  obtain⟨al,bl,rfl,hlt,us,hll,hlq⟩:=i3 hv
  refine⟨_,(eP (vq (i:=2) jZ.nd rfl rfl (gc (pv 1)) rfl nu (.name (by decide)) (λ_ _ _ _=>(fe (i:=0) nu.nd rfl (Or.inl rfl))) (λ_ _ _ _=>gU) (λ_ _ _ _=>(eY gg (pv 0) eR)))
 (eP (fF (PW.pt (jS (fC (pL (fA yh rfl B.len bz (eL (hZ (Et rfl) rfl B.set boot_set (eL (pv 2) eM)) eM)) (fA fI rfl B.len bz (eL (pv 2) eM)))) (jS (fC (pL (fA (Eu rfl) rfl B.min boot_min (eL (pv 1) eM)) eR)) (j9 (fC (xQ (fA (Ex rfl) rfl B.max boot_max (eL (pv 1) eM)) (eY jm eR (fU lR (pv 0) eR (λ_ _=>rfl)))))))))
 (eQ (fb qX)) fc)
 (eP (jT bC rfl (Fp rfl B.zip (eL (pv 1) (eL (gF iU (pv 1) (gX eR) gY) eM))) (jk (n:=2) rfl (fu (fe (i:=3) jZ.nd rfl (Or.inl rfl)) (fu (fe (i:=4) jZ.nd rfl (Or.inl rfl)) gN)))
 (eQ (fF (fL (kW hr.units) (pv 4) (eS jO (hr.mono (by decide)) rfl fE.m fE.F.kp fE.b .nil fo (eL (pv 0) (eL (eS kx (hr.mono (by decide)) rfl fS.m fS.F.kp fS.b .nil fo (eL (pv 3) eM)) eM))) (by with_unfolding_all rfl))
 (eQ (fb qX)) fc)))
 (eQ (fb qX))))),?_⟩
  refine⟨_,rfl,a,rfl,⟨_,ha⟩,λpc npc=>nj ns (λ_=>true) (λe=>V.int (e/2)) npc ha (by rw[aa]) (by rw[aa];exact me (by omega)) ?_ ?_⟩
  ·intro j x d H' hx hd sm P1 P0 k1 k0
   rw[ah,hd]at hx
   cases hx
   refine iQ ?_
   exact⟨_,rfl,_,_,rfl,rfl,⟨by decide,by decide⟩,k1 rfl⟩
  rw[jb]
  have e1:(ns.map λe=>V.int (e/2))=(ns.map (· / 2)).map V.int:=by rw[aY];rfl
  rw[e1]
  have s1:=eN (o:=.lst ((ns.map (· / 2)).map V.int)) npc
  have hpc:=eO (H:=H) (a:=pc) (o:=.lst ((ns.map (· / 2)).map V.int))
  generalize upd H pc _=H1 at s1 hpc ⊢
  refine⟨_,rfl,pc,_,rfl,SqL.of hpc,by rw[aa];show ns.length+1<4096;omega,λq nq=>?_⟩
  have s2:=s1.trans (eN (o:=.set (λk=>decide (k∈ns.map (· / 2))) (dn (ns.map (· / 2)) (ns.map (· / 2)).length)) nq)
  have KY:=(eN (o:=.set (λk=>decide (k∈ns.map (· / 2))) (dn (ns.map (· / 2)) (ns.map (· / 2)).length)) nq) _ _ hpc
  have hq:=eO (H:=H1) (a:=q) (o:=.set (λk=>decide (k∈ns.map (· / 2))) (dn (ns.map (· / 2)) (ns.map (· / 2)).length))
  generalize upd H1 q _=H2 at s2 KY hq ⊢
  refine⟨q,_,_,rfl,hq,_,rfl,pc,_,rfl,.inl (SqL.of KY),_,_,rfl,rfl,_,rfl,fG (λh=>?_) (λh=>?_)⟩
  ·have h:dn (ns.map (· / 2)) (ns.map (· / 2)).length<((ns.map (· / 2)).map V.int).length:=by simpa using h
   rw[aa,aa]at h
   have h2:=(CP (ns.map (· / 2))).mp (by rw[aa];simpa using h)
   exact ib (k2 (λz=>h2 z.nd) H2 s2)
  have nd:(ns.map (· / 2)).Nodup:=by
   have h:¬dn (ns.map (· / 2)) (ns.map (· / 2)).length<((ns.map (· / 2)).map V.int).length:=by simpa using h
   have h3:=CP (ns.map (· / 2))
   simp only[aa]at h h3
   exact eu λz=>h (h3.mpr z)
  refine⟨_,rfl,a,ns,rfl,s2.seq ha,hne,λm hm ml=>⟨_,_,rfl,rfl,_,rfl,fG (λh=>ib (k2 (λz=>?_) H2 s2)) (λh=>?_)⟩⟩
  ·have h:m<0:=by simpa using h
   have:=(z.ends m hm).1
   omega
  have m0:0<=m:=by simpa using h
  refine⟨_,rfl,a,ns,rfl,s2.seq ha,hne,λM hM Ml=>⟨_,rfl,al,_,_,_,rfl,rfl,gv s2 hlt,rfl,_,_,rfl,rfl,.inl ⟨by decide,by decide⟩,_,_,rfl,rfl,_,rfl,fG (λh=>k2 (λz=>?_) H2 s2) (λh=>?_)⟩⟩
  ·have h:2*l.1<=M:=by simpa using h
   have:=(z.ends M hM).2
   omega
  have M1:M<2*l.1:=by simpa using h
  have al':∀ e∈ns,0<=e/\e<2*l.1:=λe he=>by have h1:=ml e he;have h2:=Ml e he;omega
  refine⟨_,rfl,_,rfl,_,rfl,a,_,rfl,s2.seq ha,λt nt=>?_⟩
  rw[sA]
  have ht:=eO (H:=H2) (a:=t) (o:=.lst ((ns.drop 1).map V.int))
  have s5:=eN (o:=.lst ((ns.drop 1).map V.int)) nt
  generalize upd H2 t _=H5 at ht s5 ⊢
  have S5:=s2.trans s5
  refine⟨a,t,rfl,⟨_,S5.seq ha⟩,⟨_,SqL.of ht⟩,CM (K:=K) (a:=a) (b:=t) (xs:=ns.map V.int) (ys:=(ns.drop 1).map V.int) (ns.length-1) (by simp)
   (λi σ H6=>∃ (x2 x3:Option V),σ = [some (.ref al),some (.ref a),some (.ref pc),x2,x3]/\eW H5 H6/\∀ j,j<i->∀ x y,ns[j]? = some x->ns[j+1]? = some y->y∈jn l.2 (oth x))
   ⟨_,_,rfl,eW.refl _,λj hj=>absurd hj (Nat.not_lt_zero j)⟩ (λi σ H6 _ ⟨_,_,_,s,_⟩=>⟨(S5.trans s).seq ha,SqL.of (s _ _ ht)⟩) ?_ ?_⟩
  ·rintro i x y σ H6 p hx hy ⟨x2,x3,rfl,s6,al2⟩ np
   rw[ah]at hx hy
   rw[bX,Nat.add_comm]at hy
   obtain⟨d,hd,rfl⟩:∃ e,ns[i]? = some e/\x = .int e:=by
    cases q:ns[i]? with
    |none=>rw[q]at hx;cases hx
    |some e=>rw[q]at hx;cases hx;exact⟨e,rfl,rfl⟩
   obtain⟨e,he,rfl⟩:∃ e,ns[i+1]? = some e/\y = .int e:=by
    cases q:ns[i+1]? with
    |none=>rw[q]at hy;cases hy
    |some e=>rw[q]at hy;cases hy;exact⟨e,rfl,rfl⟩
   have S7:=(S5.trans s6).trans (eN (o:=.tup [.int d,.int e]) np)
   have s7:=s6.trans (eN (o:=.tup [.int d,.int e]) np)
   refine⟨p,_,rfl,SqT.of eO,rfl,_,_,rfl,_,_,rfl,rfl,?_⟩
   refine⟨_,rfl,_,rfl,_,rfl,d,rfl,_,l,_,rfl,Da.same S7 hv,ok,hnp,λr H8 s8 nr hr8=>?_⟩
   refine⟨(jn l.2 (oth d)).map PyData.int,.int e,iZ hr8,gj.mpr rfl,sV _,qJ _,_,rfl,?_⟩
   rw[yo]
   refine fG (λh=>?_) (λh=>?_)
   ·have h:e∉jn l.2 (oth d):=by simpa using h
    exact k2 (λz=>h (z.ch i d e hd he)) H8 (S7.trans s8)
   ·have h:e∈jn l.2 (oth d):=by simpa using h
    refine⟨_,_,rfl,s7.trans s8,λj hj x2 y2 hx2 hy2=>?_⟩
    rcases cU.mp hj with z |z
    ·exact al2 j z x2 y2 hx2 hy2
    ·subst z
     rw[hd]at hx2;rw[he]at hy2
     cases hx2;cases hy2
     exact h
  rintro σ H6 ⟨x2,x3,rfl,s6,al2⟩
  refine k1 ⟨al',nd,λi x y hx hy=>al2 i ?_ x y hx hy⟩ H6 (S5.trans s6)
  have:=(af.mp hy).1
  omega
end
theorem vp {X:Cx}{ss:List Stmt} :PSs X ss (λ_ _ _=>False):=λ_ _ _ _ _ _ h=>h.elim
noncomputable def uY:Sp:=λ_ _ _ _=>False
variable {mg:Str->Option Value}
theorem xT {P:Program}{w:World}{base:Heap}{CX:CXT}{k:Nat}{f:Addr}{fd:FuncData}{ps:List Str} :eX P w K mg base CX k f fd ps uY:=⟨λ_ _ _ _ h=>h.elim,λ_ _ _ _ _ _ _ _ _ _ _ _ _ h=>h.elim⟩
noncomputable def gOk (l:Ln)(ns gs:List Int):Prop:=isT l gs/\gs.length=ns.length
noncomputable def kb (nt:Bool)(S:DS):Option Nat:=if S.1=none then some 0 else if nt=true/\S.2=none then some 5 else none
theorem mQ {nt:Bool}(h:S.1=none):kb nt S=some 0:=by unfold kb;rw[av h]
theorem qc (hl:S.1=some l)(ht:S.2=none):kb true S=some 5:=by unfold kb;rw[ak (by rw[hl];exact λz=>nomatch z),av ⟨rfl,ht⟩]
theorem lQ {nt:Bool}{t:List Int}(hl:S.1=some l)(ht:nt=false\/S.2=some t):kb nt S=none:=by
 unfold kb
 rw[ak (by rw[hl];exact λz=>nomatch z),ak]
 rintro⟨h1,h2⟩
 rcases ht with z |z
 ·rw[z]at h1;cases h1
 ·rw[z]at h2;cases h2
open Classical in
noncomputable def gS (S:DS) (z:Str):Option Nat:=match rdT z with
 |none=>some 4
 |some gs=>match S.1 with
  |none=>some 0
  |some l=>match S.2 with
   |none=>some 5
   |some t=>if gOk l t gs then none else some 5
open Classical in
noncomputable def km (S:DS) (z:Str):Option Nat:=match g9 z.cps.toList with
 |none=>some 4
 |some n=>match S.1 with
  |none=>some 0
  |some l=>if n<l.1 then none else some 2
section
variable {S:DS}{z:Str}{gs t:List Int}{l:Ln}
theorem uN (h:rdT z=some gs)(hl:S.1=none):gS S z=some 0:=by unfold gS;rw[h];dsimp only;rw[hl]
theorem uL (h:rdT z=some gs)(hl:S.1=some l)(ht:S.2=none):gS S z=some 5:=by unfold gS;rw[h];dsimp only;rw[hl];dsimp only;rw[ht]
theorem uK (h:rdT z=some gs)(hl:S.1=some l)(ht:S.2=some t)(g:gOk l t gs):gS S z=none:=by unfold gS;rw[h];dsimp only;rw[hl];dsimp only;rw[ht];exact av g
theorem uM (h:rdT z=some gs)(hl:S.1=some l)(ht:S.2=some t)(g:¬gOk l t gs):gS S z=some 5:=by unfold gS;rw[h];dsimp only;rw[hl];dsimp only;rw[ht];exact ak g
end
noncomputable def pF (K:PySem.W.Frag)(C:Addr)(cs:List Addr)(n:Nat)(R:DS->Str->Option Nat):Sp:=λvs H _ E=>∃ (d:Addr) (z:Str) (S:DS) (p:Addr->Prop),vs = [.ref d,.str z]/\Dsk K C p H d S/\DOk S/\z.length<=n/\∃ j,R S z=some j/\∀ c,cs[j]? = some c->∀ H',eW H H'->∀ e,H' e=none->E (.ref c) (some e) H'
noncomputable def pG (K:PySem.W.Frag)(C:Addr)(cs:List Addr)(R:DS->Option Nat):Sp:=λvs H _ E=>∃ (d:Addr) (S:DS) (p:Addr->Prop),vs = [.ref d]/\Dsk K C p H d S/\DOk S/\∃ j,R S=some j/\∀ c,cs[j]? = some c->∀ H',eW H H'->∀ e,H' e=none->E (.ref c) (some e) H'
noncomputable def yA (K:PySem.W.Frag)(c2:Addr):Sp:=λvs H Q E=>∃ (v u g:V) (l:Ln) (ns gs:List Int),vs = [v,u,g]/\Da K H (dL l) v/\Da K H (dI ns) u/\Da K H (dI gs) g/\gI l/\gs.length<=900/\
 (gOk l ns gs->∀ H',eW H H'->Q .non H')/\(¬gOk l ns gs->∀ H',eW H H'->∀ e,H' e=none->E (.ref c2) (some e) H')
noncomputable def qD (K:PySem.W.Frag)(c2:Addr):Sp:=λvs H _ E=>∃ (v u g:V) (l:Ln) (ns gs:List Int),vs = [v,u,g]/\Da K H (dL l) v/\Da K H (dI ns) u/\Da K H (dI gs) g/\gI l/\gs.length<=900/\¬gOk l ns gs/\∀ H',eW H H'->∀ e,H' e=none->E (.ref c2) (some e) H'
noncomputable def zR (K:PySem.W.Frag)(c4:Addr):Sp:=λvs H _ E=>∃ (v:V) (l:Ln) (n:Int),vs = [v,.int n]/\Da K H (dL l) v/\l.1<=n/\∀ H',eW H H'->∀ e,H' e=none->E (.ref c4) (some e) H'
noncomputable abbrev kH:Stmt:=top 26
theorem wO:fh ["line","train","goal"] ["line","train","goal"] (eT kH):=⟨rfl,rfl,rfl,by decide +kernel,rfl,by decide +kernel,by decide +kernel⟩
noncomputable abbrev uJ:Stmt:=top 32
theorem E7:fh ["line","train","goal","steps","aim"] ["line","train","goal"] (eT uJ):=⟨rfl,rfl,rfl,by decide +kernel,rfl,by decide +kernel,by decide +kernel⟩
noncomputable abbrev rR:Stmt:=top 38
theorem DE:fh ["line","train","goal","standings","aim","counts","steps","word","ways"] ["line","train","goal"] (eT rR):=⟨rfl,rfl,rfl,by decide +kernel,rfl,by decide +kernel,by decide +kernel⟩
noncomputable abbrev uI:Stmt:=top 49
theorem E5:fh ["line","piece","told"] ["line","piece"] (eT uI):=⟨rfl,rfl,rfl,by decide +kernel,rfl,by decide +kernel,by decide +kernel⟩
noncomputable abbrev E8:Stmt:=top 50
noncomputable abbrev xN:Stmt:=top 29
noncomputable abbrev lr:Stmt:=top 66
noncomputable abbrev oQ:Stmt:=top 75
theorem qV:fh ["desk","rest","goal"] ["desk","rest"] (eT oQ):=⟨rfl,rfl,rfl,by decide +kernel,rfl,by decide +kernel,by decide +kernel⟩
noncomputable abbrev nF:Stmt:=top 76
theorem pR:fh ["desk","rest","goal"] ["desk","rest"] (eT nF):=⟨rfl,rfl,rfl,by decide +kernel,rfl,by decide +kernel,by decide +kernel⟩
noncomputable abbrev pU:Stmt:=top 77
theorem yH:fh ["desk"] ["desk"] (eT pU):=⟨rfl,rfl,rfl,by decide +kernel,rfl,by decide +kernel,by decide +kernel⟩
noncomputable abbrev kU:Stmt:=top 78
theorem rO:fh ["desk"] ["desk"] (eT kU):=⟨rfl,rfl,rfl,by decide +kernel,rfl,by decide +kernel,by decide +kernel⟩
noncomputable abbrev oP:Stmt:=top 79
theorem lq:fh ["desk","rest","piece","kind","told"] ["desk","rest"] (eT oP):=⟨rfl,rfl,rfl,by decide +kernel,rfl,by decide +kernel,by decide +kernel⟩
noncomputable abbrev xK:Stmt:=top 46
noncomputable abbrev mH:Stmt:=top 80
theorem lL:fh ["desk","pieces","train"] ["desk"] (eT mH):=⟨rfl,rfl,rfl,by decide +kernel,rfl,by decide +kernel,by decide +kernel⟩
section
variable {P:Program}{w:World}{K:PySem.W.Frag}{mg:Str->Option Value}{base:Heap}{f:Addr}{fd:FuncData}{D c1 c2 c3 c4 c5 c6 c7 C fi fs:Addr}
theorem xi (F:Fn K mg "check_goal" kH ["line","train","goal"] f fd)(XS:Xr K mg c2 c3)(B:Bm mg)
  (gy:Fn K mg "check_train" ja ["line","train"] f1 fd1) (jd:eX P w K mg base (CXr P w base) 4 f1 fd1 ["line","train"] (va K c2)):eX P w K mg base (CXr P w base) 5 f fd ["line","train","goal"] (yA K c2):=by
 refine F.F.okX wO (λvs H Q E h=>?_) (λcdv A outer s H vs Q E hr h=>?_)
 ·obtain⟨v,u,g,l,ns,gs,rfl,_⟩:=h;rfl
 ·obtain⟨v,u,g,l,ns,gs,rfl,hv,hu,hg,ok,gl,k1,k2⟩:=h
  obtain⟨a,rfl,ha⟩:=iJ.mp hu
  obtain⟨b,rfl,hb⟩:=iJ.mp hg
  refine⟨_,(eP (iB (eS jd (hr.mono (by decide)) rfl gy.m gy.F.kp gy.b .nil fj (eL (pv 0) (eL (pv 2) eM))))
 (eQ (fF (fC (vy (fA fI rfl B.len bz (eL (pv 2) eM)) (fA fI rfl B.len bz (eL (pv 1) eM))))
 (eQ (gx gh rfl rfl XS.iK.m XS.iK.q az (eL eU eM))) fc))),?_⟩
  refine⟨_,rfl,_,rfl,_,_,l,gs,rfl,hv,hg,ok,gl,λit H1 s1=>?_,λz H1 s1 e he=>k2 (λy=>z y.1) H1 s1 e he⟩
  refine⟨_,rfl,b,_,rfl,.inl (s1.seq hb),_,rfl,a,_,rfl,.inl (s1.seq ha),_,_,rfl,rfl,_,rfl,fG (λh=>?_) (λh=>?_)⟩
  ·have h:((gs.map V.int).length:Int)≠((ns.map V.int).length:Int):=by simpa using h
   rw[aa,aa]at h
   exact⟨by decide,λe he=>k2 (λz=>h (by rw[z.2])) H1 s1 e he⟩
  ·have h:((gs.map V.int).length:Int)=((ns.map V.int).length:Int):=by simpa using h
   rw[aa,aa]at h
   exact k1 ⟨it,by omega⟩ _ s1
theorem DR (F:Fn K mg "least" uJ ["line","train","goal"] f fd)(gH:Fn K mg "check_goal" kH ["line","train","goal"] f1 fd1)(jP:eX P w K mg base (CXr P w base) 5 f1 fd1 ["line","train","goal"] (yA K c2)):
  eX P w K mg base (CXr P w base) 6 f fd ["line","train","goal"] (qD K c2):=by
 refine F.F.okX E7 (λvs H Q E h=>?_) (λcdv A outer s H vs Q E hr h=>?_)
 ·obtain⟨v,u,g,l,ns,gs,rfl,_⟩:=h;rfl
 ·obtain⟨v,u,g,l,ns,gs,rfl,hv,hu,hg,ok,gl,ng,k2⟩:=h
  refine⟨_,(eP (iB (eS jP (hr.mono (by decide)) rfl gH.m gH.F.kp gH.b .nil fj (eL (pv 0) (eL (pv 1) (eL (pv 2) eM))))) vp),?_⟩
  exact⟨_,rfl,_,rfl,_,rfl,_,_,_,l,ns,gs,rfl,hv,hu,hg,ok,gl,λz=>absurd z ng,λ_=>k2⟩
theorem Bz (F:Fn K mg "fewest" rR ["line","train","goal"] f fd)(gH:Fn K mg "check_goal" kH ["line","train","goal"] f1 fd1)(jP:eX P w K mg base (CXr P w base) 5 f1 fd1 ["line","train","goal"] (yA K c2)):
  eX P w K mg base (CXr P w base) 6 f fd ["line","train","goal"] (qD K c2):=by
 refine F.F.okX DE (λvs H Q E h=>?_) (λcdv A outer s H vs Q E hr h=>?_)
 ·obtain⟨v,u,g,l,ns,gs,rfl,_⟩:=h;rfl
 ·obtain⟨v,u,g,l,ns,gs,rfl,hv,hu,hg,ok,gl,ng,k2⟩:=h
  refine⟨_,(eP (iB (eS jP (hr.mono (by decide)) rfl gH.m gH.F.kp gH.b .nil fj (eL (pv 0) (eL (pv 1) (eL (pv 2) eM))))) vp),?_⟩
  exact⟨_,rfl,_,rfl,_,rfl,_,_,_,l,ns,gs,rfl,hv,hu,hg,ok,gl,λz=>absurd z ng,λ_=>k2⟩
theorem wX (F:Fn K mg "tell_least" oQ ["desk","rest"] f fd)(fX:Fn K mg "read_train" iV ["text"] f1 fd1)(g0:eX P w K mg base (CXr P w base) 4 f1 fd1 ["text"] (B7 c6))
  (eV:Fn K mg "kept_line" gu ["desk"] f2 fd2) (fm:eX P w K mg base (CXr P w base) 1 f2 fd2 ["desk"] (pI C c1)) (eZ:Fn K mg "kept_train" gz ["desk"] f3 fd3) (fq:eX P w K mg base (CXr P w base) 2 f3 fd3 ["desk"] (qU C c1 c2))
  (qP:Fn K mg "least" uJ ["line","train","goal"] f4 fd4) (zI:eX P w K mg base (CXr P w base) 6 f4 fd4 ["line","train","goal"] (qD K c2)) (fW:Fn K mg "run_or_none" lr ["told"] f5 fd5):
  eX P w K mg base (CXr P w base) 7 f fd ["desk","rest"] (pF K C [c1,c3,c4,c7,c6,c2,c5] 800 gS):=by
 have jW:eX P w K mg base CX0 1 f5 fd5 ["told"] uY:=xT
 refine F.F.okX qV (λvs H Q E h=>?_) (λcdv A outer s H vs Q E hr h=>?_)
 ·obtain⟨d,z,S,p,rfl,_⟩:=h;rfl
 ·obtain⟨d,z,S,p,rfl,hD,hS,hz,j0,hj0,kk0⟩:=h
  have kk:∀ j,gS S z=some j->∀ c,[c1,c3,c4,c7,c6,c2,c5][j]? = some c->∀ H',eW H H'->∀ e,H' e=none->E (.ref c) (some e) H':=λj hj=>by rw[hj0]at hj;cases hj;exact kk0
  refine⟨_,(eP (fk (i:=2) qV.nd rfl (Or.inl rfl) (eS g0 (hr.mono (by decide)) rfl fX.m fX.F.kp fX.b .nil fj (eL (pv 1) eM)))
 (eQ (fb (eS jW (hr.mono (by decide)) rfl fW.m fW.F.kp fW.b .nil fo (eL (eS zI (hr.mono (by decide)) rfl qP.m qP.F.kp qP.b .nil fj (eL (eS fm (hr.mono (by decide)) rfl eV.m eV.F.kp eV.b .nil fj (eL (pv 0) eM)) (eL (eS fq (hr.mono (by decide)) rfl eZ.m eZ.F.kp eZ.b .nil fj (eL (pv 0) eM)) (eL (pv 2) eM)))) eM))))),?_⟩
  refine⟨_,rfl,z,rfl,by omega,λns hns q H1 s1 nq hq=>?_,λhn H1 s1 e he=>?_⟩
  rotate_left
  ·exact kk 4 (by unfold gS;rw[hn]) c6 rfl H1 s1 e he
  have hD:=hD.same s1
  obtain⟨dx,v,u,hd,hv,hu⟩:=hD.at_
  refine⟨_,rfl,d,dx,v,u,rfl,hd,λvn=>?_,λvn H3 s3 e he=>?_⟩
  rotate_left
  ·exact kk 0 (uN hns ((gJ hv).mp vn)) c1 rfl H3 (s1.trans s3) e he
  obtain⟨l,hl⟩:∃ l,S.1=some l:=by
   cases q:S.1 with
   |none=>exact absurd ((gJ hv).mpr q) vn
   |some l=>exact⟨l,rfl⟩
  refine⟨_,rfl,d,dx,v,u,rfl,hd,λvn un=>?_,λvn'=>absurd vn' vn,λ_ un H3 s3 e he=>?_⟩
  rotate_left
  ·exact kk 5 (uL hns hl ((iL hu).mp un)) c2 rfl H3 (s1.trans s3) e he
  obtain⟨t,ht⟩:∃ t,S.2=some t:=by
   cases q:S.2 with
   |none=>exact absurd ((iL hu).mpr q) un
   |some l=>exact⟨l,rfl⟩
  obtain⟨l',hl',it⟩:=hS.t t ht
  rw[hl]at hl'
  cases hl'
  rw[hl]at hv
  rw[ht]at hu
  have hv:Da K (ip p H1) (dL l) v:=hv
  have hu:Da K (ip p H1) (dI t) u:=hu
  have nl:ns.length<=900:=by
   rw[mj hns]
   have h1:=i9 z 32
   have h2:=jK (Txt.split z (chS 32))
   unfold wds
   omega
  have ng:¬gOk l t ns:=λz=>by rw[uK hns hl ht z]at hj0;cases hj0
  exact⟨_,rfl,v,u,.ref q,l,t,ns,rfl,Da.same fZ hv,Da.same fZ hu,iZ hq,DOk.lok hS hl,nl,ng,λH2 s2 e he=>kk 5 (uM hns hl ht ng) c2 rfl H2 (s1.trans s2) e he⟩
theorem vG (F:Fn K mg "tell_fewest" nF ["desk","rest"] f fd)(fX:Fn K mg "read_train" iV ["text"] f1 fd1)(g0:eX P w K mg base (CXr P w base) 4 f1 fd1 ["text"] (B7 c6))
  (eV:Fn K mg "kept_line" gu ["desk"] f2 fd2) (fm:eX P w K mg base (CXr P w base) 1 f2 fd2 ["desk"] (pI C c1)) (eZ:Fn K mg "kept_train" gz ["desk"] f3 fd3) (fq:eX P w K mg base (CXr P w base) 2 f3 fd3 ["desk"] (qU C c1 c2))
  (oB:Fn K mg "fewest" rR ["line","train","goal"] f4 fd4) (wz:eX P w K mg base (CXr P w base) 6 f4 fd4 ["line","train","goal"] (qD K c2)) (fW:Fn K mg "run_or_none" lr ["told"] f5 fd5):
  eX P w K mg base (CXr P w base) 7 f fd ["desk","rest"] (pF K C [c1,c3,c4,c7,c6,c2,c5] 800 gS):=by
 have jW:eX P w K mg base CX0 1 f5 fd5 ["told"] uY:=xT
 refine F.F.okX pR (λvs H Q E h=>?_) (λcdv A outer s H vs Q E hr h=>?_)
 ·obtain⟨d,z,S,p,rfl,_⟩:=h;rfl
 ·obtain⟨d,z,S,p,rfl,hD,hS,hz,j0,hj0,kk0⟩:=h
  have kk:∀ j,gS S z=some j->∀ c,[c1,c3,c4,c7,c6,c2,c5][j]? = some c->∀ H',eW H H'->∀ e,H' e=none->E (.ref c) (some e) H':=λj hj=>by rw[hj0]at hj;cases hj;exact kk0
  refine⟨_,(eP (fk (i:=2) pR.nd rfl (Or.inl rfl) (eS g0 (hr.mono (by decide)) rfl fX.m fX.F.kp fX.b .nil fj (eL (pv 1) eM)))
 (eQ (fb (eS jW (hr.mono (by decide)) rfl fW.m fW.F.kp fW.b .nil fo (eL (eS wz (hr.mono (by decide)) rfl oB.m oB.F.kp oB.b .nil fj (eL (eS fm (hr.mono (by decide)) rfl eV.m eV.F.kp eV.b .nil fj (eL (pv 0) eM)) (eL (eS fq (hr.mono (by decide)) rfl eZ.m eZ.F.kp eZ.b .nil fj (eL (pv 0) eM)) (eL (pv 2) eM)))) eM))))),?_⟩
  refine⟨_,rfl,z,rfl,by omega,λns hns q H1 s1 nq hq=>?_,λhn H1 s1 e he=>?_⟩
  rotate_left
  ·exact kk 4 (by unfold gS;rw[hn]) c6 rfl H1 s1 e he
  have hD:=hD.same s1
  obtain⟨dx,v,u,hd,hv,hu⟩:=hD.at_
  refine⟨_,rfl,d,dx,v,u,rfl,hd,λvn=>?_,λvn H3 s3 e he=>?_⟩
  rotate_left
  ·exact kk 0 (uN hns ((gJ hv).mp vn)) c1 rfl H3 (s1.trans s3) e he
  obtain⟨l,hl⟩:∃ l,S.1=some l:=by
   cases q:S.1 with
   |none=>exact absurd ((gJ hv).mpr q) vn
   |some l=>exact⟨l,rfl⟩
  refine⟨_,rfl,d,dx,v,u,rfl,hd,λvn un=>?_,λvn'=>absurd vn' vn,λ_ un H3 s3 e he=>?_⟩
  rotate_left
  ·exact kk 5 (uL hns hl ((iL hu).mp un)) c2 rfl H3 (s1.trans s3) e he
  obtain⟨t,ht⟩:∃ t,S.2=some t:=by
   cases q:S.2 with
   |none=>exact absurd ((iL hu).mpr q) un
   |some l=>exact⟨l,rfl⟩
  obtain⟨l',hl',it⟩:=hS.t t ht
  rw[hl]at hl'
  cases hl'
  rw[hl]at hv
  rw[ht]at hu
  have hv:Da K (ip p H1) (dL l) v:=hv
  have hu:Da K (ip p H1) (dI t) u:=hu
  have nl:ns.length<=900:=by
   rw[mj hns]
   have h1:=i9 z 32
   have h2:=jK (Txt.split z (chS 32))
   unfold wds
   omega
  have ng:¬gOk l t ns:=λz=>by rw[uK hns hl ht z]at hj0;cases hj0
  exact⟨_,rfl,v,u,.ref q,l,t,ns,rfl,Da.same fZ hv,Da.same fZ hu,iZ hq,DOk.lok hS hl,nl,ng,λH2 s2 e he=>kk 5 (uM hns hl ht ng) c2 rfl H2 (s1.trans s2) e he⟩
theorem yW (F:Fn K mg "tell_turn" pU ["desk"] f fd)(B:Bm mg)(eV:Fn K mg "kept_line" gu ["desk"] f2 fd2)(fm:eX P w K mg base (CXr P w base) 1 f2 fd2 ["desk"] (pI C c1))(eZ:Fn K mg "kept_train" gz ["desk"] f3 fd3)(fq:eX P w K mg base (CXr P w base) 2 f3 fd3 ["desk"] (qU C c1 c2))(wA:Fn K mg "turn" E8 ["line","train"] f4 fd4)(fW:Fn K mg "run_or_none" lr ["told"] f5 fd5):
  eX P w K mg base (CXr P w base) 4 f fd ["desk"] (pG K C [c1,c3,c4,c7,c6,c2,c5] (kb true)):=by
 have JT:eX P w K mg base (CXr P w base) 1 f4 fd4 ["line","train"] uY:=xT
 have jW:eX P w K mg base CX0 1 f5 fd5 ["told"] uY:=xT
 refine F.F.okX yH (λvs H Q E h=>?_) (λcdv A outer s H vs Q E hr h=>?_)
 ·obtain⟨d,S,p,rfl,_⟩:=h;rfl
 ·obtain⟨d,S,p,rfl,hD,hS,j0,hj0,kk0⟩:=h
  have kk:∀ j,kb true S=some j->∀ c,[c1,c3,c4,c7,c6,c2,c5][j]? = some c->∀ H',eW H H'->∀ e,H' e=none->E (.ref c) (some e) H':=λj hj=>by rw[hj0]at hj;cases hj;exact kk0
  obtain⟨dx,v,u,hd,hv,hu⟩:=hD.at_
  refine⟨_,(eQ (fb (eS jW (hr.mono (by decide)) rfl fW.m fW.F.kp fW.b .nil fo (eL (eS JT (hr.mono (by decide)) rfl wA.m wA.F.kp wA.b .nil fj (eL (eS fm (hr.mono (by decide)) rfl eV.m eV.F.kp eV.b .nil fj (eL (pv 0) eM)) (eL (eS fq (hr.mono (by decide)) rfl eZ.m eZ.F.kp eZ.b .nil fj (eL (pv 0) eM)) eM))) eM)))),?_⟩
  refine⟨_,rfl,d,dx,v,u,rfl,hd,λvn=>?_,λvn H3 s3 e he=>?_⟩
  rotate_left
  ·exact kk 0 (mQ ((gJ hv).mp vn)) c1 rfl H3 (s3) e he
  obtain⟨l,hl⟩:∃ l,S.1=some l:=by
   cases q:S.1 with
   |none=>exact absurd ((gJ hv).mpr q) vn
   |some l=>exact⟨l,rfl⟩
  refine⟨_,rfl,d,dx,v,u,rfl,hd,λvn un=>?_,λvn'=>absurd vn' vn,λ_ un H3 s3 e he=>?_⟩
  rotate_left
  ·exact kk 5 (qc hl ((iL hu).mp un)) c2 rfl H3 (s3) e he
  obtain⟨t,ht⟩:∃ t,S.2=some t:=by
   cases q:S.2 with
   |none=>exact absurd ((iL hu).mpr q) un
   |some l=>exact⟨l,rfl⟩
  rw[lQ hl (.inr ht)]at hj0
  cases hj0
theorem rX {f5:Addr}{fd5:FuncData}(F:Fn K mg "tell_standings" kU ["desk"] f fd)(B:Bm mg)(eV:Fn K mg "kept_line" gu ["desk"] f2 fd2)(fm:eX P w K mg base (CXr P w base) 1 f2 fd2 ["desk"] (pI C c1))(eZ:Fn K mg "kept_train" gz ["desk"] f3 fd3)(fq:eX P w K mg base (CXr P w base) 2 f3 fd3 ["desk"] (qU C c1 c2))(oE:Fn K mg "come_to" xN ["line","train"] f4 fd4):
  eX P w K mg base (CXr P w base) 4 f fd ["desk"] (pG K C [c1,c3,c4,c7,c6,c2,c5] (kb true)):=by
 have ED:eX P w K mg base (CXr P w base) 1 f4 fd4 ["line","train"] uY:=xT
 refine F.F.okX rO (λvs H Q E h=>?_) (λcdv A outer s H vs Q E hr h=>?_)
 ·obtain⟨d,S,p,rfl,_⟩:=h;rfl
 ·obtain⟨d,S,p,rfl,hD,hS,j0,hj0,kk0⟩:=h
  have kk:∀ j,kb true S=some j->∀ c,[c1,c3,c4,c7,c6,c2,c5][j]? = some c->∀ H',eW H H'->∀ e,H' e=none->E (.ref c) (some e) H':=λj hj=>by rw[hj0]at hj;cases hj;exact kk0
  obtain⟨dx,v,u,hd,hv,hu⟩:=hD.at_
  refine⟨_,(eQ (fb (hZ mq rfl B.str boot_str (eL (fA fI rfl B.len bz (eL (eS ED (hr.mono (by decide)) rfl oE.m oE.F.kp oE.b .nil fj (eL (eS fm (hr.mono (by decide)) rfl eV.m eV.F.kp eV.b .nil fj (eL (pv 0) eM)) (eL (eS fq (hr.mono (by decide)) rfl eZ.m eZ.F.kp eZ.b .nil fj (eL (pv 0) eM)) eM))) eM)) eM)))),?_⟩
  refine⟨_,rfl,d,dx,v,u,rfl,hd,λvn=>?_,λvn H3 s3 e he=>?_⟩
  rotate_left
  ·exact kk 0 (mQ ((gJ hv).mp vn)) c1 rfl H3 (s3) e he
  obtain⟨l,hl⟩:∃ l,S.1=some l:=by
   cases q:S.1 with
   |none=>exact absurd ((gJ hv).mpr q) vn
   |some l=>exact⟨l,rfl⟩
  refine⟨_,rfl,d,dx,v,u,rfl,hd,λvn un=>?_,λvn'=>absurd vn' vn,λ_ un H3 s3 e he=>?_⟩
  rotate_left
  ·exact kk 5 (qc hl ((iL hu).mp un)) c2 rfl H3 (s3) e he
  obtain⟨t,ht⟩:∃ t,S.2=some t:=by
   cases q:S.2 with
   |none=>exact absurd ((iL hu).mpr q) un
   |some l=>exact⟨l,rfl⟩
  rw[lQ hl (.inr ht)]at hj0
  cases hj0
theorem DQ (F:Fn K mg "sides" uI ["line","piece"] f fd)(XS:Xs K mg D c1 c2 c3 c4 c5 c6 c7):eX P w K mg base (CXr P w base) 1 f fd ["line","piece"] (zR K c4):=by
 refine F.F.okX E5 (λvs H Q E h=>?_) (λcdv A outer s H vs Q E hr h=>?_)
 ·obtain⟨v,l,n,rfl,_⟩:=h;rfl
 ·obtain⟨v,l,n,rfl,hv,hn,k2⟩:=h
  obtain⟨al,bl,rfl,hlt,us,hll,hlq⟩:=i3 hv
  refine⟨_,(eP (fF (PW.pt (jS (fC (pL (pv 1) eR)) (j9 (fC (xQ (pv 1) (fU lR (pv 0) eR (λ_ _=>rfl)))))))
 (eQ (gx gh rfl rfl XS.uS.m XS.uS.q az (eL eU eM))) fc) vp),?_⟩
  refine⟨_,rfl,_,_,rfl,rfl,_,rfl,fG (λ_=>ib ⟨by decide,λe he=>k2 H (eW.refl _) e he⟩) (λ_=>?_)⟩
  refine⟨_,rfl,_,rfl,al,_,_,_,rfl,rfl,hlt,rfl,_,_,rfl,rfl,_,rfl,fG (λ_=>⟨by decide,λe he=>k2 H (eW.refl _) e he⟩) (λh=>?_)⟩
  have h:¬l.1<=n:=by simpa using h
  exact absurd hn h
theorem wV (F:Fn K mg "tell_sides" oP ["desk","rest"] f fd)(fT:Fn K mg "read_number" iG ["text"] f1 fd1)(gO:eX P w K mg base (CXr P w base) 1 f1 fd1 ["text"] (yw c6))
  (eV:Fn K mg "kept_line" gu ["desk"] f2 fd2) (fm:eX P w K mg base (CXr P w base) 1 f2 fd2 ["desk"] (pI C c1)) (qO:Fn K mg "sides" uI ["line","piece"] f4 fd4) (zH:eX P w K mg base (CXr P w base) 1 f4 fd4 ["line","piece"] (zR K c4)):
  eX P w K mg base (CXr P w base) 4 f fd ["desk","rest"] (pF K C [c1,c3,c4,c7,c6,c2,c5] 800 km):=by
 refine F.F.okX lq (λvs H Q E h=>?_) (λcdv A outer s H vs Q E hr h=>?_)
 ·obtain⟨d,z,S,p,rfl,_⟩:=h;rfl
 ·obtain⟨d,z,S,p,rfl,hD,hS,hz,j0,hj0,kk0⟩:=h
  have kk:∀ j,km S z=some j->∀ c,[c1,c3,c4,c7,c6,c2,c5][j]? = some c->∀ H',eW H H'->∀ e,H' e=none->E (.ref c) (some e) H':=λj hj=>by rw[hj0]at hj;cases hj;exact kk0
  refine⟨_,(eP (fk (i:=2) lq.nd rfl (Or.inl rfl) (eS gO (hr.mono (by decide)) rfl fT.m fT.F.kp fT.b .nil fj (eL (pv 1) eM)))
 (eP (nH (eS zH (hr.mono (by decide)) rfl qO.m qO.F.kp qO.b .nil fj (eL (eS fm (hr.mono (by decide)) rfl eV.m eV.F.kp eV.b .nil fj (eL (pv 0) eM)) (eL (pv 2) eM))) (jk (n:=2) rfl (fu (fe (i:=3) lq.nd rfl (Or.inl rfl)) (fu (fe (i:=4) lq.nd rfl (Or.inl rfl)) gN)))) vp)),?_⟩
  refine⟨_,rfl,z,rfl,by omega,λn hn H1 s1=>?_,λhn H1 s1 e he=>?_⟩
  rotate_left
  ·exact kk 4 (by unfold km;rw[hn]) c6 rfl H1 s1 e he
  have hD:=hD.same s1
  obtain⟨dx,v,u,hd,hv,hu⟩:=hD.at_
  refine⟨_,rfl,d,dx,v,u,rfl,hd,λvn=>?_,λvn H3 s3 e he=>?_⟩
  rotate_left
  ·exact kk 0 (by unfold km;rw[hn];dsimp only;rw[(gJ hv).mp vn]) c1 rfl H3 (s1.trans s3) e he
  obtain⟨l,hl⟩:∃ l,S.1=some l:=by
   cases q:S.1 with
   |none=>exact absurd ((gJ hv).mpr q) vn
   |some l=>exact⟨l,rfl⟩
  rw[hl]at hv
  have hv:Da K (ip p H1) (dL l) v:=hv
  have hn2:¬n<l.1:=λy=>by
   have:km S z=none:=by unfold km;rw[hn];dsimp only;rw[hl];exact av y
   rw[this]at hj0;cases hj0
  exact⟨_,rfl,v,l,n,rfl,Da.same fZ hv,by omega,λH2 s2 e he=>kk 2 (by unfold km;rw[hn];dsimp only;rw[hl];exact ak hn2) c4 rfl H2 (s1.trans s2) e he⟩
theorem uv (F:Fn K mg "tell_longest" mH ["desk"] f fd)(eV:Fn K mg "kept_line" gu ["desk"] f2 fd2)(fm:eX P w K mg base (CXr P w base) 1 f2 fd2 ["desk"] (pI C c1))(oA:Fn K mg "longest" xK ["line"] f4 fd4):
  eX P w K mg base (CXr P w base) 4 f fd ["desk"] (pG K C [c1,c3,c4,c7,c6,c2,c5] (kb false)):=by
 have EB:eX P w K mg base (CXr P w base) 1 f4 fd4 ["line"] uY:=xT
 refine F.F.okX lL (λvs H Q E h=>?_) (λcdv A outer s H vs Q E hr h=>?_)
 ·obtain⟨d,S,p,rfl,_⟩:=h;rfl
 ·obtain⟨d,S,p,rfl,hD,hS,j0,hj0,kk0⟩:=h
  have kk:∀ j,kb false S=some j->∀ c,[c1,c3,c4,c7,c6,c2,c5][j]? = some c->∀ H',eW H H'->∀ e,H' e=none->E (.ref c) (some e) H':=λj hj=>by rw[hj0]at hj;cases hj;exact kk0
  obtain⟨dx,v,u,hd,hv,hu⟩:=hD.at_
  refine⟨_,(eP (nH (eS EB (hr.mono (by decide)) rfl oA.m oA.F.kp oA.b .nil fj (eL (eS fm (hr.mono (by decide)) rfl eV.m eV.F.kp eV.b .nil fj (eL (pv 0) eM)) eM)) (jk (n:=2) rfl (fu (fe (i:=1) lL.nd rfl (Or.inl rfl)) (fu (fe (i:=2) lL.nd rfl (Or.inl rfl)) gN)))) vp),?_⟩
  refine⟨_,rfl,d,dx,v,u,rfl,hd,λvn=>?_,λvn H3 s3 e he=>kk 0 (mQ ((gJ hv).mp vn)) c1 rfl H3 s3 e he⟩
  obtain⟨l,hl⟩:∃ l,S.1=some l:=by
   cases q:S.1 with
   |none=>exact absurd ((gJ hv).mpr q) vn
   |some l=>exact⟨l,rfl⟩
  rw[lQ (t:=[]) hl (.inl rfl)]at hj0
  cases hj0
end
noncomputable def krw:List Str:=[Str.ofString "line",Str.ofString "train",Str.ofString "on",Str.ofString "back",Str.ofString "least",Str.ofString "fewest",Str.ofString "sides"]
noncomputable def kaw:List Str:=[Str.ofString "round",Str.ofString "moves",Str.ofString "here",Str.ofString "turn",Str.ofString "standings",Str.ofString "longest"]
open Classical in
noncomputable def pW (z:Str):Option Nat:=match gW z with
 |none=>some 4
 |some l=>if gb l then none else some 0
open Classical in
noncomputable def lN (S:DS) (z:Str):Option Nat:=match rdT z with
 |none=>some 4
 |some ns=>match S.1 with
  |none=>some 0
  |some l=>if isT l ns then none else some 5
noncomputable def rGo (w:Str)(S:DS)(z:Str):Option Nat:=match gB z.cps.toList with
 |none=>some 4
 |some e=>match S.1 with
  |none=>some 0
  |some l=>match S.2 with
   |none=>some 5
   |some t=>match fnd (mvs l t) (w,e)with
    |some _=>none
    |none=>some 1
open Classical in
noncomputable def Fd (w:Str) (S:DS) (z:Str):Option Nat:=if w=Str.ofString "line" then pW z else if w=Str.ofString "train" then lN S z else if w=Str.ofString "least" \/w=Str.ofString "fewest" then gS S z else if w=Str.ofString "sides" then km S z else rGo w S z
open Classical in
noncomputable def oX (S:DS) (row:Str):Option Nat:=if(prt row).2.1=Str.empty/\(prt row).1∈kaw then kb (!decide ((prt row).1=Str.ofString "longest")) S else if(prt row).2.2=Str.empty\/(prt row).1∉krw then some 3 else Fd (prt row).1 S (prt row).2.2
section
variable {S:DS}{z w:Str}{j:Nat}
theorem GY (h:pW z=some j):oq S z=(.error j,S):=by
 unfold pW at h
 cases q:gW z with
 |none=>rw[q]at h;cases h;exact CZ q
 |some l=>
  rw[q]at h
  dsimp only at h
  split at h
  ·cases h
  ·rename_i i;cases h;exact C8 q i
theorem Fi (h:lN S z=some j):kc S z=(.error j,S):=by
 unfold lN at h
 cases q:rdT z with
 |none=>rw[q]at h;cases h;exact AV q
 |some ns=>
  rw[q]at h
  dsimp only at h
  cases q1:S.1 with
  |none=>rw[q1]at h;cases h;exact AX q q1
  |some l=>
   rw[q1]at h
   dsimp only at h
   split at h
   ·cases h
   ·rename_i i;cases h;exact AW q q1 i
theorem HR (h:rGo w S z=some j):dGo w S z=(.error j,S):=by
 unfold rGo at h
 unfold dGo
 cases q:gB z.cps.toList with
 |none=>rw[q]at h;cases h;rfl
 |some e=>
  rw[q]at h
  dsimp only at h ⊢
  cases q1:S.1 with
  |none=>rw[q1]at h;cases h;exact qu q1
  |some l=>
   rw[q1]at h
   dsimp only at h
   cases q2:S.2 with
   |none=>rw[q2]at h;cases h;exact rA q1 q2
   |some t=>
    rw[q2]at h
    dsimp only at h
    rw[tJ q1 q2]
    cases q3:fnd (mvs l t) (w,e)with
    |some b=>rw[q3]at h;cases h
    |none=>rw[q3]at h;cases h;rfl
theorem BH (h:kb true S=some j):both S k=(.error j,S):=by
 cases q1:S.1 with
 |none=>rw[mQ q1]at h;cases h;exact qu q1
 |some l=>
  cases q2:S.2 with
  |none=>rw[qc q1 q2]at h;cases h;exact rA q1 q2
  |some t=>rw[lQ q1 (.inr q2)]at h;cases h
end
section
variable {P:Program}{w:World}{K:PySem.W.Frag}{mg:Str->Option Value}{base:Heap}{C c1 c2 c3 c4 c5 c6 c7:Addr}{kr ka:List (Str×Addr)}
noncomputable abbrev FV (P:Program)(w:World)(K:PySem.W.Frag)(mg:Str->Option Value)(base:Heap):=FnV P w K mg base (CXr P w base) 7
structure yq (P:Program)(w:World)(K:PySem.W.Frag)(mg:Str->Option Value)(base:Heap)(kr ka:List (Str×Addr))(C:Addr)(cs:List Addr):Prop where
 line:∃ f,jo kr (Str.ofString "line")=some f/\FV P w K mg base f (lE K C cs 2100 oq)
 EM:∃ f,jo kr (Str.ofString "train")=some f/\FV P w K mg base f (lE K C cs 800 kc)
 on:∃ f,jo kr (Str.ofString "on")=some f/\FV P w K mg base f (lE K C cs 800 (dGo (Str.ofString "on")))
 back:∃ f,jo kr (Str.ofString "back")=some f/\FV P w K mg base f (lE K C cs 800 (dGo (Str.ofString "back")))
 least:∃ f,jo kr (Str.ofString "least")=some f/\FV P w K mg base f (pF K C cs 800 gS)
 Gv:∃ f,jo kr (Str.ofString "fewest")=some f/\FV P w K mg base f (pF K C cs 800 gS)
 HP:∃ f,jo kr (Str.ofString "sides")=some f/\FV P w K mg base f (pF K C cs 800 km)
 round:∃ f,jo ka (Str.ofString "round")=some f/\FV P w K mg base f (nY K C cs tG)
 here:∃ f,jo ka (Str.ofString "here")=some f/\FV P w K mg base f (nY K C cs pM)
 moves:∃ f,jo ka (Str.ofString "moves")=some f/\FV P w K mg base f (nY K C cs lT)
 turn:∃ f,jo ka (Str.ofString "turn")=some f/\FV P w K mg base f (pG K C cs (kb true))
 xF:∃ f,jo ka (Str.ofString "standings")=some f/\FV P w K mg base f (pG K C cs (kb true))
 longest:∃ f,jo ka (Str.ofString "longest")=some f/\FV P w K mg base f (pG K C cs (kb false))
 nr:∀ x,x∉krw->jo kr x=none
 na:∀ x,x∉kaw->jo ka x=none
theorem Aa {d:Addr}{n:Nat}{Dd:DS->Str->Ans}(hx:(32:Nat)∉x.cps.toList)(xl:x.length<=100)(hz:z≠Str.empty)(zl:z.length<=n)(n3:n<=3000)(hf:∃ f,jo kr x=some f/\FV P w K mg base f (lE K C cs n Dd))(hD:Dsk K C p H d S)(dS:DOk S):
  uf P w K mg base kr ka c7 C cs H d p (x++chS 32++z) (Dd S z):=by
 intro H' Q E s hQ
 obtain⟨f,hk,hf⟩:=hf
 have e:prt (x++chS 32++z)=(x,chS 32,z):=FD hx
 refine⟨d,_,rfl,?_,?_,?_,?_⟩
 ·rw[ag,ag]
  have:(chS 32).length=1:=rfl
  omega
 ·rw[e]
  intro g _ hg
  rw[hk]at hg
  cases hg
  exact⟨_,hf,λH2 s2=>⟨d,z,S,p,rfl,hD.same (s.trans s2),dS,zl,hQ.same s2⟩⟩
 ·rw[e]
  intro g h
  rcases h with h |h
  ·exact absurd h hz
  ·rw[hk]at h;cases h
 ·rw[e]
  intro h
  rcases h with h |h
  ·exact absurd h hz
  ·rw[hk]at h;cases h
theorem Ab {d:Addr}{Dd:DS->Ans}(hx:(32:Nat)∉x.cps.toList)(xl:x.length<=100)(hf:∃ f,jo ka x=some f/\FV P w K mg base f (nY K C cs Dd))(hD:Dsk K C p H d S)(dS:DOk S):
  uf P w K mg base kr ka c7 C cs H d p x (Dd S):=by
 intro H' Q E s hQ
 obtain⟨f,hk,hf⟩:=hf
 have e:prt x=(x,Str.empty,Str.empty):=Hc hx
 refine⟨d,_,rfl,by omega,?_,?_,?_⟩
 ·rw[e]
  intro g h
  exact absurd rfl h
 ·rw[e]
  intro g _ _ hg
  rw[hk]at hg
  cases hg
  exact⟨_,hf,λH2 s2=>⟨d,S,p,rfl,hD.same (s.trans s2),dS,hQ.same s2⟩⟩
 ·rw[e]
  intro _ h
  rcases h with h |h
  ·exact absurd rfl h
  ·rw[hk]at h;cases h
theorem KO:∀ x∈kaw,x∉krw:=by decide +kernel
theorem Ci {d:Addr}{row:Str}{j:Nat}(DD:yq P w K mg base kr ka C [c1,c3,c4,c7,c6,c2,c5])(hr:oX S row=some j)(rl:row.length<=780)(hD:Dsk K C p H d S)(dS:DOk S):
  uf P w K mg base kr ka c7 C [c1,c3,c4,c7,c6,c2,c5] H d p row (.error j,S):=by
 intro H' Q E s hQ
 obtain⟨l1,l2,l3⟩:=yR row
 have D2:=λ{H2:Hp} (s2:eW H' H2)=>hD.same (s.trans s2)
 have rj:∀ {H2:Hp},eW H' H2->∀ c,[c1,c3,c4,c7,c6,c2,c5][j]? = some c->∀ H3,eW H2 H3->∀ e,H3 e=none->E (.ref c) (some e) H3:=λs2 c hc H3 s3 e he=>hQ.2 j rfl c hc H3 (eW.trans s2 s3) e he
 unfold oX at hr
 refine⟨d,row,rfl,by omega,λg hz hg=>?_,λg hn hb hg=>?_,λhn hb H2 s2 e he=>?_⟩
 ·have hin:(prt row).1∈krw:=aU λz=>by rw[DD.nr _ z]at hg;cases hg
  rw[ak (λz=>KO _ z.2 hin),ak (by rintro(z |z);exact hz z;exact z hin)]at hr
  generalize (prt row).1=x at hg hin hr
  generalize (prt row).2.2=z at hz hr l3
  have pick:∀ {f:Addr}{sp:Sp},jo kr x=some f->FV P w K mg base f sp->(∀ H2,eW H' H2->sp [.ref d,.str z] H2 Q E)->∃ sp,FnV P w K mg base (CXr P w base) 7 g sp/\∀ H2,eW H' H2->sp [.ref d,.str z] H2 Q E:=λhk hf h=>by
   rw[hk]at hg;cases hg;exact⟨_,hf,h⟩
  unfold krw at hin
  simp only[ay,aW,b9]at hin
  unfold Fd at hr
  rcases hin with rfl |rfl |rfl |rfl |rfl |rfl |rfl
  ·rw[av rfl]at hr
   obtain⟨f,hk,hf⟩:=DD.line
   exact pick hk hf λH2 s2=>⟨d,z,S,p,rfl,D2 s2,dS,by omega,by rw[GY hr];exact hQ.same s2⟩
  ·rw[ak (by decide +kernel),av rfl]at hr
   obtain⟨f,hk,hf⟩:=DD.EM
   exact pick hk hf λH2 s2=>⟨d,z,S,p,rfl,D2 s2,dS,by omega,by rw[Fi hr];exact hQ.same s2⟩
  ·rw[ak (by decide +kernel),ak (by decide +kernel),ak (by decide +kernel),ak (by decide +kernel)]at hr
   obtain⟨f,hk,hf⟩:=DD.on
   exact pick hk hf λH2 s2=>⟨d,z,S,p,rfl,D2 s2,dS,by omega,by rw[HR hr];exact hQ.same s2⟩
  ·rw[ak (by decide +kernel),ak (by decide +kernel),ak (by decide +kernel),ak (by decide +kernel)]at hr
   obtain⟨f,hk,hf⟩:=DD.back
   exact pick hk hf λH2 s2=>⟨d,z,S,p,rfl,D2 s2,dS,by omega,by rw[HR hr];exact hQ.same s2⟩
  ·rw[ak (by decide +kernel),ak (by decide +kernel),av (.inl rfl)]at hr
   obtain⟨f,hk,hf⟩:=DD.least
   exact pick hk hf λH2 s2=>⟨d,z,S,p,rfl,D2 s2,dS,by omega,j,hr,rj s2⟩
  ·rw[ak (by decide +kernel),ak (by decide +kernel),av (.inr rfl)]at hr
   obtain⟨f,hk,hf⟩:=DD.Gv
   exact pick hk hf λH2 s2=>⟨d,z,S,p,rfl,D2 s2,dS,by omega,j,hr,rj s2⟩
  ·rw[ak (by decide +kernel),ak (by decide +kernel),ak (by decide +kernel),av rfl]at hr
   obtain⟨f,hk,hf⟩:=DD.HP
   exact pick hk hf λH2 s2=>⟨d,z,S,p,rfl,D2 s2,dS,by omega,j,hr,rj s2⟩
 ·have hin:(prt row).1∈kaw:=aU λz=>by rw[DD.na _ z]at hg;cases hg
  rw[av ⟨hb,hin⟩]at hr
  generalize (prt row).1=x at hg hin hr
  have pick:∀ {f:Addr}{sp:Sp},jo ka x=some f->FV P w K mg base f sp->(∀ H2,eW H' H2->sp [.ref d] H2 Q E)->∃ sp,FnV P w K mg base (CXr P w base) 7 g sp/\∀ H2,eW H' H2->sp [.ref d] H2 Q E:=λhk hf h=>by
   rw[hk]at hg;cases hg;exact⟨_,hf,h⟩
  unfold kaw at hin
  simp only[ay,aW,b9]at hin
  rcases hin with rfl |rfl |rfl |rfl |rfl |rfl
  ·have hr:kb true S=some j:=hr
   obtain⟨f,hk,hf⟩:=DD.round
   exact pick hk hf λH2 s2=>⟨d,S,p,rfl,D2 s2,dS,by unfold tG;rw[BH hr];exact hQ.same s2⟩
  ·have hr:kb true S=some j:=hr
   obtain⟨f,hk,hf⟩:=DD.moves
   exact pick hk hf λH2 s2=>⟨d,S,p,rfl,D2 s2,dS,by unfold lT;rw[BH hr];exact hQ.same s2⟩
  ·have hr:kb true S=some j:=hr
   obtain⟨f,hk,hf⟩:=DD.here
   exact pick hk hf λH2 s2=>⟨d,S,p,rfl,D2 s2,dS,by unfold pM;rw[BH hr];exact hQ.same s2⟩
  ·have hr:kb true S=some j:=hr
   obtain⟨f,hk,hf⟩:=DD.turn
   exact pick hk hf λH2 s2=>⟨d,S,p,rfl,D2 s2,dS,j,hr,rj s2⟩
  ·have hr:kb true S=some j:=hr
   obtain⟨f,hk,hf⟩:=DD.xF
   exact pick hk hf λH2 s2=>⟨d,S,p,rfl,D2 s2,dS,j,hr,rj s2⟩
  ·have hr:kb false S=some j:=hr
   obtain⟨f,hk,hf⟩:=DD.longest
   exact pick hk hf λH2 s2=>⟨d,S,p,rfl,D2 s2,dS,j,hr,rj s2⟩
 ·have h1:¬((prt row).2.1=Str.empty/\(prt row).1∈kaw):=λ⟨z1,z2⟩=>by
   rcases hb with h |h
   ·exact h z1
   ·unfold kaw at z2
    simp only[ay,aW,b9]at z2
    have jr:∀ {sp:Sp},(∃ f,jo ka (prt row).1=some f/\FV P w K mg base f sp)->False:=λ⟨f,hk,_⟩=>by rw[h]at hk;cases hk
    rcases z2 with q |q |q |q |q |q
    ·exact jr (by rw[q];exact DD.round)
    ·exact jr (by rw[q];exact DD.moves)
    ·exact jr (by rw[q];exact DD.here)
    ·exact jr (by rw[q];exact DD.turn)
    ·exact jr (by rw[q];exact DD.xF)
    ·exact jr (by rw[q];exact DD.longest)
  have h2:(prt row).2.2=Str.empty\/(prt row).1∉krw:=by
   rcases hn with h |h
   ·exact .inl h
   ·refine .inr λz2=>?_
    unfold krw at z2
    simp only[ay,aW,b9]at z2
    have jr:∀ {sp:Sp},(∃ f,jo kr (prt row).1=some f/\FV P w K mg base f sp)->False:=λ⟨f,hk,_⟩=>by rw[h]at hk;cases hk
    rcases z2 with q |q |q |q |q |q |q
    ·exact jr (by rw[q];exact DD.line)
    ·exact jr (by rw[q];exact DD.EM)
    ·exact jr (by rw[q];exact DD.on)
    ·exact jr (by rw[q];exact DD.back)
    ·exact jr (by rw[q];exact DD.least)
    ·exact jr (by rw[q];exact DD.Gv)
    ·exact jr (by rw[q];exact DD.HP)
  rw[ak h1,av h2]at hr
  cases hr
  exact hQ.2 3 rfl c7 rfl H2 s2 e he
end
noncomputable def kI:Option Int->V
 |none=>.non
 |some n=>.int n
noncomputable def uG:Sp:=λvs H Q _=>∃ z:Str,vs = [.str z]/\z.length<=20000/\∀ H',eW H H'->Q (kI (g9 z.cps.toList)) H'
noncomputable def uH:Sp:=λvs H Q _=>∃ z:Str,vs = [.str z]/\z.length<=20000/\∀ H',eW H H'->Q (kI (gB z.cps.toList)) H'
noncomputable abbrev iz:Stmt:=top 96
theorem wK:fh ["_law_word"] ["_law_word"] (eT iz):=⟨rfl,rfl,rfl,by decide +kernel,rfl,by decide +kernel,by decide +kernel⟩
theorem pP:gp (eT iz) ["_law_word"] {kind:=.function,names:=[(Str.ofString ".0",.local),(Str.ofString "_law_sign",.local)],isGenerator:=false,isCoroutine:=false,more:=[]} ["_law_sign"] 1 [none]:=⟨rfl,by decide +kernel,by decide +kernel,by decide +kernel,rfl,by decide +kernel,rfl,by decide +kernel⟩
noncomputable abbrev mw:Stmt:=top 97
theorem vh:fh ["_law_word","_law_number_here"] ["_law_word"] (eT mw):=⟨rfl,rfl,rfl,by decide +kernel,rfl,by decide +kernel,by decide +kernel⟩
section
variable {P:Program}{w:World}{K:PySem.W.Frag}{mg:Str->Option Value}{base:Heap}{f:Addr}{fd:FuncData}{c6 c1:Addr}{t3 t4:Tok}
theorem nK (F:Fn K mg "_law_number" iz ["_law_word"] f fd)(B:Bm mg):eX P w K mg base CX0 1 f fd ["_law_word"] uG:=by
 refine F.F.ok wK (λvs H Q E h=>?_) (λcdv A outer s H vs Q E hr h=>?_)
 ·obtain⟨z,rfl,_⟩:=h;rfl
 ·obtain⟨z,rfl,hz,k⟩:=h
  have hzs:=yF (show z.length<=100000 by omega)
  have hsl:z.length=z.cps.toList.length:=str_len z
  refine⟨_,(eP (fF (PW.pt (jS (fL oi (pv 0) eU (gZ _)) (jS (fC (pZ (fA ph rfl B.len bz (eL (pv 0) eM)) eR)) (j9 (fC (pZ (fA fI rfl B.len bz (eL (og (Fq (pv 0)) rfl pP (.name (by decide)) (λ_ _ _ _=>(fe (i:=0) pP.nd rfl (Or.inl rfl))) (λ_ _ _ _=>(mM (fL rV (pv 0) eU (by with_unfolding_all rfl)))) (λ_ _ _ _=>(pv 0))) eM)) eR))))))
 (eQ (fb ir)) fc)
 (eP (fF (PW.pt (oY (fL oi (fU rz (pv 0) eR (λ_ _=>rfl)) eU (gZ _)) (mn (fL tY (pv 0) eU (gZ _)))))
 (eQ (fb ir)) fc)
 (eQ (fb (hZ yi rfl B.int boot_int (eL (pv 0) eM)))))),?_⟩
  have K7:z=Str.ofString "" ↔z.cps.toList = []:=by
   rw[show Str.ofString "" = mkS [] by decide +kernel]
   constructor
   ·intro q;rw[q,oj]
   ·intro q;rw[<-sW z,q]
  refine⟨_,rfl,rfl,_,rfl,fG (λh=>?_) (λh=>?_)⟩
  ·have h:z=Str.ofString "" :=by simpa using h
   have e:g9 z.cps.toList=none:=by unfold g9;rw[av (.inl (K7.mp h))]
   rw[e]at k
   exact ib (k H (eW.refl _))
  have hne:z.cps.toList≠ []:=λq=>by
   have h:¬z=Str.ofString "" :=by simpa using h
   exact h (K7.mpr q)
  refine⟨_,rfl,z,rfl,hzs,_,_,rfl,rfl,_,rfl,fG (λh=>?_) (λh=>?_)⟩
  ·have h:(z.length:Int)>40:=by simpa using h
   have e:g9 z.cps.toList=none:=by unfold g9;rw[av (.inr (by omega))]
   rw[e]at k
   exact ib (k H (eW.refl _))
  have h2:¬(z.length:Int)>40:=by simpa using h
  have hc0:¬(z.cps.toList = []\/40<z.cps.toList.length):=λq=>by
   rcases q with q |q
   ·exact hne q
   ·omega
  have hsz:z.cps.size=z.cps.toList.length:=by simp
  refine⟨_,rfl,z,rfl,λp np=>sf F9 z.cps.toList (λc=> !hU c) (λc=>V.str ⟨#[c]⟩) np hsz (by rw[hsz,aE];omega) ?_ ?_⟩
  ·intro i x d H' hx hd sm P1 P0 p1 p0
   obtain⟨c,hc,rfl⟩:=hx
   have e0:c=d:=aZ ((Im z i c hc).symm.trans hd)
   subst e0
   refine⟨_,rfl,_,_,rfl,rfl,_,rfl,?_⟩
   rw[Gu]
   by_cases c1:hU c=true
   ·rw[c1]
    exact p0 (by rw[c1];rfl)
   ·have c1:hU c=false:=by simpa using c1
    rw[c1]
    exact⟨_,rfl,p1 (by rw[c1];rfl)⟩
  have s1:eW H (upd H p (.lst ((z.cps.toList.filter λc=> !hU c).map λc=>V.str ⟨#[c]⟩))):=eN np
  have hp:=eO (H:=H) (a:=p) (o:=.lst ((z.cps.toList.filter λc=> !hU c).map λc=>V.str ⟨#[c]⟩))
  generalize upd H p _=H1 at s1 hp ⊢
  refine⟨p,_,rfl,.inl (SqL.of hp),_,_,rfl,rfl,_,rfl,fG (λh=>?_) (λh=>?_)⟩
  ·have h:(((z.cps.toList.filter λc=> !hU c).map λc=>V.str ⟨#[c]⟩).length:Int)>0:=by simpa using h
   rw[aa]at h
   have:z.cps.toList.all hU=false:=by
    cases q:z.cps.toList.all hU with
    |false=>rfl
    |true=>
     have:z.cps.toList.filter (λc=> !hU c) = []:=by
      rw[List.filter_eq_nil_iff]
      intro c hc
      rw[bY.mp q c hc];simp
     rw[this]at h;simp at h
   have e:g9 z.cps.toList=none:=by unfold g9;rw[ak hc0,av this]
   rw[e]at k
   exact k H1 s1
  have h:¬(((z.cps.toList.filter λc=> !hU c).map λc=>V.str ⟨#[c]⟩).length:Int)>0:=by simpa using h
  rw[aa]at h
  have h3:z.cps.toList.all hU=true:=by
   rw[bY]
   intro c hc
   have:z.cps.toList.filter (λc=> !hU c) = []:=cD (by omega)
   have:=List.filter_eq_nil_iff.mp this c hc
   simpa using this
  have hc1:¬z.cps.toList.all hU=false:=by rw[h3];decide
  obtain⟨c0,r0,hcr⟩:∃ c r,z.cps.toList=c::r:=by
   cases q:z.cps.toList with
   |nil=>exact absurd q hne
   |cons c r=>exact⟨c,r,rfl⟩
  have hh:z.cps.toList.head?=some c0:=by rw[hcr];rfl
  have hz0:z=Str.ofString "0" ↔z.cps.toList = [48]:=by
   rw[qB]
   constructor
   ·intro q;rw[q,oj]
   ·intro q;rw[<-sW z,q]
  have ret:¬(z.cps.toList.head?=some 48/\z.cps.toList≠ [48])->∃ z' n,[V.str z] = [V.str z']/\PySem.intText? z'=some n/\z'.length<=640/\Q (.int n) H1:=λq=>by
   refine⟨z,_,rfl,PySem.intText_digits (x:=z) ?_ hne (by omega),by omega,?_⟩
   ·intro c hc
    have:=bY.mp h3 c hc
    unfold hU at this
    exact cc this
   ·have e:g9 z.cps.toList=some ((PySem.NumText.digitsVal z.cps.toList:Nat):Int):=by unfold g9;rw[ak hc0,ak hc1,ak q]
    rw[e]at k
    exact k H1 s1
  refine⟨_,rfl,z,0,c0,rfl,rfl,hzs,De hcr,rfl,_,rfl,fG (λh=>?_) (λh=>?_)⟩
  ·have h:(⟨#[c0]⟩:Str)=Str.ofString "0" :=by simpa using h
   have h:c0=48:=by
    rw[qB]at h
    exact wj.mp h
   refine⟨_,rfl,rfl,_,rfl,fG (λh'=>?_) (λh'=>?_)⟩
   ·have h':¬z=Str.ofString "0" :=by simpa using h'
    have e:g9 z.cps.toList=none:=by unfold g9;rw[ak hc0,ak hc1,av ⟨by rw[hh,h],λq=>h' (hz0.mpr q)⟩]
    rw[e]at k
    exact k H1 s1
   ·have h':z=Str.ofString "0" :=by simpa using h'
    exact⟨_,rfl,ret λq=>q.2 (hz0.mp h')⟩
  ·have h:¬(⟨#[c0]⟩:Str)=Str.ofString "0" :=by simpa using h
   have h:¬c0=48:=λq=>h (by rw[qB,q];rfl)
   exact⟨_,rfl,ret λq=>h (by have:=q.1;rw[hh]at this;exact aZ this)⟩
theorem E4 (c:Nat):(!(Builtin.Str.occurrences (Str.ofString "<>") ⟨#[c]⟩ 0 (Str.ofString "<>").length 1).isEmpty)=decide (c=60\/c=62):=by
 rw[PySem.StrLaws.found_one]
 refine decide_eq_decide.mpr ?_
 have e:(Str.ofString "<>").cps.toList = [60,62]:=by decide +kernel
 rw[e];simp
theorem ro (F:Fn K mg "_law_end" mw ["_law_word"] f fd)(B:Bm mg)(fz:Fn K mg "_law_number" iz ["_law_word"] f1 fd1):eX P w K mg base CX0 2 f fd ["_law_word"] uH:=by
 have jN:eX P w K mg base CX0 1 f1 fd1 ["_law_word"] uG:=nK fz B
 refine F.F.ok vh (λvs H Q E h=>?_) (λcdv A outer s H vs Q E hr h=>?_)
 ·obtain⟨z,rfl,_⟩:=h;rfl
 ·obtain⟨z,rfl,hz,k⟩:=h
  have hzs:=yF (show z.length<=100000 by omega)
  have hsl:z.length=z.cps.toList.length:=str_len z
  refine⟨_,(eP (fk (i:=1) vh.nd rfl (Or.inl rfl) (eS jN (hr.mono (by decide)) rfl fz.m fz.F.kp fz.b .nil fo (eL (gF vf (pv 0) gY (gX (pY mC eR))) eM)))
 (eP (fF (PW.pt (jS (fC (nI (pv 1))) (j9 (fL rV (fU rz (pv 0) (pY mC eR) (λ_ _=>rfl)) eU (by with_unfolding_all rfl)))))
 (eQ (fb ir)) fc)
 (eQ (fb (eY iI (eY jm eR (pv 1)) (hZ oy rfl B.int boot_int (eL (uP oi (fU rz (pv 0) (pY mC eR) (λ_ _=>rfl)) eU (gZ _)) eM))))))),?_⟩
  refine⟨_,rfl,_,rfl,_,rfl,z,rfl,rfl,rfl,hzs,mkS z.cps.toList.dropLast,rfl,?_,λH1 s1=>?_⟩
  ·rw[zg,bM];omega
  rw[oj]
  cases hn:g9 z.cps.toList.dropLast with
  |none=>
   have e:gB z.cps.toList=none:=by unfold gB;rw[hn];rfl
   rw[e]at k
   exact⟨_,rfl,_,rfl,ib (k H1 s1)⟩
  |some n=>
   have hne:z.cps.toList≠ []:=λq=>by rw[q]at hn;simp[g9]at hn
   obtain⟨c,hc⟩:∃ c,z.cps.toList.getLast?=some c:=by
    cases q:z.cps.toList.getLast? with
    |none=>exact absurd (List.getLast?_eq_none_iff.mp q) hne
    |some c=>exact⟨c,rfl⟩
   have hb:gB z.cps.toList=if c=60 then some (2*n)else if c=62 then some (2*n+1)else none:=by
    unfold gB
    rw[hn,hc]
    show(if some c=some 60 then _ else if some c=some 62 then _ else _)=_
    simp only[Option.some.injEq]
   refine⟨_,rfl,_,rfl,kJ ?_⟩
   refine⟨_,rfl,_,rfl,z,-1,c,rfl,rfl,hzs,nv hc,_,_,rfl,rfl,_,rfl,?_⟩
   rw[E4]
   refine fG (λh=>?_) (λh=>?_)
   ·have h:¬(c=60\/c=62):=by simpa using h
    have e:gB z.cps.toList=none:=by rw[hb,ak (λq=>h (.inl q)),ak (λq=>h (.inr q))]
    rw[e]at k
    exact k H1 s1
   ·have h:c=60\/c=62:=eu λq=>h (by simp[q])
    refine⟨_,rfl,_,_,rfl,rfl,.inl ⟨by decide,by decide⟩,_,rfl,_,rfl,z,-1,c,rfl,rfl,hzs,nv hc,rfl,.inr ⟨_,rfl,_,_,rfl,rfl,?_⟩⟩
    rcases h with h |h
    ·rw[hb,av h]at k
     have e:decide (V.str ⟨#[c]⟩=V.str (Str.ofString ">"))=false:=bu λq=>by
      injection q with q
      rw[yf]at q
      have:=wj.mp q
      omega
     rw[e]
     have:=k H1 s1
     show Q (.int (2*n+0)) H1
     rw[Int.add_zero]
     exact this
    ·rw[hb,ak (by omega),av h]at k
     have e:decide (V.str ⟨#[c]⟩=V.str (Str.ofString ">"))=true:=cP (by rw[yf,h];rfl)
     rw[e]
     exact k H1 s1
end
theorem BL:∀ os:List (Option Int),inV .non (os.map kI)=os.any Option.isNone
 |[]=>rfl
 |o::r=>by
  have ih:=BL r
  unfold inV at ih ⊢
  rw[aN,du,du,ih]
  cases o<;>rfl
theorem CN:∀ os:List (Option Int),(os.map kI).all qf=true
 |[]=>rfl
 |o::r=>by
  rw[aN,eE,CN r]
  cases o<;>rfl
theorem Cr:∀ {os:List (Option Int)},os.any Option.isNone=false->∃ ns:List Int,os=ns.map some
 |[],_=>⟨[],rfl⟩
 |none::r,h=>by simp at h
 |some n::r,h=>by
  rw[du]at h
  obtain⟨ns,e⟩:=Cr (os:=r) (by simpa using h)
  exact⟨n::ns,by rw[e];rfl⟩
theorem He {os:List (Option Int)}(h:os.any Option.isNone=true):qv os=none:=by
 obtain⟨o,ho,hn⟩:=dt.mp h
 cases o with
 |none=>exact mz ho
 |some n=>cases hn
noncomputable def Lq (K:PySem.W.Frag)(H:Hp)(z:Str)(v:V):Prop:=(rdT z=none/\v = .non)\/∃ ns a,rdT z=some ns/\v = .ref a/\Da K H (dI ns) (.ref a)
noncomputable def EX (K:PySem.W.Frag):Sp:=λvs H Q _=>∃ z:Str,vs = [.str z]/\z.length<=20000/\∀ v H',eW H H'->Lq K H' z v->Q v H'
noncomputable abbrev iN:Stmt:=top 98
theorem m9:fh ["_law_text","_law_ends"] ["_law_text"] (eT iN):=⟨rfl,rfl,rfl,by decide +kernel,rfl,by decide +kernel,by decide +kernel⟩
theorem md:gp (eT iN) ["_law_text","_law_ends"] {kind:=.function,names:=[(Str.ofString ".0",.local),(Str.ofString "_law_word",.local),(Str.ofString "_law_end",.globalImplicit)],isGenerator:=false,isCoroutine:=false,more:=[]} ["_law_word"] 1 [none]:=⟨rfl,by decide +kernel,by decide +kernel,by decide +kernel,rfl,by decide +kernel,rfl,by decide +kernel⟩
section
variable {P:Program}{w:World}{K:PySem.W.Frag}{mg:Str->Option Value}{base:Heap}{f:Addr}{fd:FuncData}
theorem rZ (F:Fn K mg "_law_read_train" iN ["_law_text"] f fd)(B:Bm mg)(fz:Fn K mg "_law_number" iz ["_law_word"] f2 fd2)(gi:Fn K mg "_law_end" mw ["_law_word"] f1 fd1):eX P w K mg base CX0 3 f fd ["_law_text"] (EX K):=by
 have mB:eX P w K mg base CX0 2 f1 fd1 ["_law_word"] uH:=ro gi B fz
 refine F.F.ok m9 (λvs H Q E h=>?_) (λcdv A outer s H vs Q E hr h=>?_)
 ·obtain⟨z,rfl,_⟩:=h;rfl
 ·obtain⟨z,rfl,hz,k'⟩:=h
  have kn:rdT z=none->∀ H',eW H H'->Q .non H':=λhn H' S=>k' _ H' S (.inl ⟨hn,rfl⟩)
  have k:∀ ns,rdT z=some ns->∀ p H',eW H H'->H' p=some (.lst (ns.map V.int))->Q (.ref p) H':=λns h p H' S hp=>k' _ H' S (.inr ⟨ns,p,h,rfl,iZ hp⟩)
  have hwl:=B2 hz
  have hpl:∀ x∈wds z,x.length<=20000:=λx hx=>by have:=qI hx;omega
  refine⟨_,(eP (vq (i:=1) m9.nd rfl rfl (gc (jt aS bg bP mP (pv 0) (eL eU eM))) rfl md (.name (by decide)) (λ_ _ _ _=>(fe (i:=0) md.nd rfl (Or.inl rfl))) (λ_ _ _ _=>gU) (λ_ _ _ _=>(eS mB (hr.mono (by decide)) rfl gi.m gi.F.kp gi.b .nil fo (eL (pv 0) eM))))
 (eP (fF (fL oh ir (pv 1) (by with_unfolding_all rfl))
 (eQ (fb ir)) fc)
 (eQ (fb (pv 1))))),?_⟩
  refine⟨_,rfl,rfl,_,_,rfl,rfl,by decide,by omega,λq0 nq0=>?_⟩
  rw[iD]
  have s1:eW H (upd H q0 (.lst ((wds z).map V.str))):=eN nq0
  have hq0:(upd H q0 (.lst ((wds z).map V.str))) q0=some (.lst ((wds z).map V.str)):=eO
  have eH:upd H q0 (.lst ((Txt.split z (chS 32)).map V.str))=upd H q0 (.lst ((wds z).map V.str)):=rfl
  rw[eH]
  generalize upd H q0 (.lst ((wds z).map V.str))=H1 at s1 hq0 ⊢
  have hq4:SqL K H1 q0 ((wds z).map V.str):=SqL.of hq0
  refine⟨q0,rfl,⟨_,hq4⟩,λt nt=>sg (wds z).length (wds z) (λ_=>true) (λx=>kI (gB x.cps.toList)) nt rfl (bA hwl (by rw[aE];decide)) (λi H s hi=>(gr hq4).go i H s (by rw[aa];exact hi)) (λH s=>by have:=(gr hq4).stop H s;rw[aa]at this;exact this) ?_ ?_⟩
  ·intro i y d G G' sG yy hd P1 P0 p1 p0
   have hi:i<(wds z).length:=(af.mp hd).1
   obtain⟨rfl,hx'⟩:=(gr hq4).yld i G y G' sG (by rw[aa];exact hi) yy
   rw[ah,hd]at hx'
   cases hx'
   refine iQ ?_
   exact⟨_,rfl,d,rfl,hpl d (aB hd),λG2 sG2=>p1 G2 rfl sG2⟩
  intro H5 s5 h5
  rw[jb]at h5
  have ho:((wds z).map λx=>kI (gB x.cps.toList))=((wds z).map λx=>gB x.cps.toList).map kI:=by rw[aY];rfl
  rw[ho]at h5
  have hT:rdT z=qv ((wds z).map λx=>gB x.cps.toList):=rfl
  generalize ((wds z).map λx=>gB x.cps.toList)=os at h5 hT
  refine⟨_,rfl,t,_,rfl,.inl (SqL.of h5),rfl,CN os,_,rfl,fG (λh=>?_) (λh=>?_)⟩
  ·have h:inV .non (os.map kI)=true:=h
   rw[BL]at h
   exact kn (by rw[hT];exact He h) _ (s1.trans s5)
  ·have h:¬inV .non (os.map kI)=true:=h
   rw[BL]at h
   obtain⟨ns,e⟩:=Cr (os:=os) (by rw[bQ];exact h)
   refine⟨_,rfl,k ns (by rw[hT,e,kX]) t _ (s1.trans s5) ?_⟩
   rw[h5,e,aY];rfl
end
noncomputable def dS (ws:List Str):PyData:=.list (ws.map .str)
theorem sx {L T:Addr->List V->Prop} :∀ {ns:List Str}{vs:List V},Dgs L T (ns.map .str) vs↔vs=ns.map V.str
 |[],vs=>gA
 |n::ns,vs=>by
  rw[aN,fO]
  constructor
  ·rintro⟨v,r,rfl,h1,h2⟩
   rw[nN.mp h1,sx.mp h2];rfl
  ·rintro rfl
   exact⟨_,_,rfl,nN.mpr rfl,sx.mpr rfl⟩
theorem CY {ws:List Str}{v:V}(h:Da K H (dS ws) v):∃ a,v = .ref a/\SqL K H a (ws.map V.str):=by
 obtain⟨a,vs,rfl,hl,hq⟩:=iY.mp h
 rw[sx.mp hq]at hl
 exact⟨a,rfl,hl⟩
noncomputable def Eo:Option Int->PyData
 |none=>.none
 |some n=>.int n
theorem Gz {L T:Addr->List V->Prop}(o:Option Int):Dg L T (Eo o) (kI o):=by cases o<;>simp[Eo,kI,Dg]
noncomputable def dO (p:Option Int×Option Int):PyData:=.tuple [Eo p.1,Eo p.2]
noncomputable def rdO (z:Str):Option (Option Int×Option Int):=match wds z with
 |[a,b,c]=>if a=Str.ofString "joint" then some (gB b.cps.toList,gB c.cps.toList)else none
 |_=>none
noncomputable def mkO (p:Option Int×Option Int):Option (Int×Int):=p.1.bind λx=>p.2.map λy=>(x,y)
theorem HQ (z:Str):rdJ z=(rdO z).bind mkO:=by
 unfold rdJ rdO
 generalize wds z=ws
 match ws with
 |[]=>rfl
 |[a]=>rfl
 |[a,b]=>rfl
 |[a,b,c]=>
  show(if _ then _ else _)=Option.bind (if _ then _ else _) mkO
  by_cases h:a=Str.ofString "joint"
  ·rw[av h,av h];rfl
  ·rw[ak h,ak h];rfl
 |a::b::c::d::r=>rfl
noncomputable def uC (p:Option Int×Option Int):Bool:=p.1.isNone||p.2.isNone
theorem CI (a b:Option Int):inV .non [kI a,kI b]=uC (a,b):=by cases a<;>cases b<;>rfl
theorem Gs (a b:Option Int):[kI a,kI b].all qf=true:=by cases a<;>cases b<;>rfl
theorem FT {p:Option Int×Option Int}(h:uC p=true):mkO p=none:=by
 obtain⟨a,b⟩:=p
 cases a<;>cases b<;>first |rfl |cases h
theorem FR {p:Option Int×Option Int}(h:uC p=false):∃ q,mkO p=some q/\dO p=dP q:=by
 obtain⟨a,b⟩:=p
 cases a<;>cases b<;>first |exact⟨_,rfl,rfl⟩|cases h
theorem all_some:∀ {ops:List (Option Int×Option Int)},(∀ op∈ops,uC op=false)->∃ js:List (Int×Int),ops.map mkO=js.map some/\ops.map dO=js.map dP
 |[],_=>⟨[],rfl,rfl⟩
 |o::r,al=>by
  obtain⟨q,e1,e2⟩:=FR (al o au)
  obtain⟨js,e3,e4⟩:=all_some λx hx=>al x (aq _ hx)
  exact⟨q::js,by rw[aN,aN,e1,e3],by rw[aN,aN,e2,e4]⟩
noncomputable def EY (K:PySem.W.Frag):Sp:=λvs H Q _=>∃ z:Str,vs = [.str z]/\z.length<=20000/\(gW z=none->∀ H',eW H H'->Q .non H')/\(∀ l,gW z=some l->∀ v H',eW H H'->Da K H' (dL l) v->Q v H')
noncomputable abbrev iu:Stmt:=top 99
theorem jG:fh ["_law_text","_law_rows","_law_joints","_law_words"] ["_law_text"] (eT iu):=⟨rfl,rfl,rfl,by decide +kernel,rfl,by decide +kernel,by decide +kernel⟩
theorem mW:gp (eT iu) ["_law_text","_law_rows","_law_joints","_law_words"] {kind:=.function,names:=[(Str.ofString ".0",.local),(Str.ofString "_law_row",.local)],isGenerator:=false,isCoroutine:=false,more:=[]} ["_law_row"] 1 [none]:=⟨rfl,by decide +kernel,by decide +kernel,by decide +kernel,rfl,by decide +kernel,rfl,by decide +kernel⟩
theorem mV:gp (eT iu) ["_law_text","_law_rows","_law_joints","_law_words"] {kind:=.function,names:=[(Str.ofString ".0",.local),(Str.ofString "_law_joint",.local)],isGenerator:=false,isCoroutine:=false,more:=[]} ["_law_joint"] 1 [none]:=⟨rfl,by decide +kernel,by decide +kernel,by decide +kernel,rfl,by decide +kernel,rfl,by decide +kernel⟩
section
variable {P:Program}{w:World}{K:PySem.W.Frag}{mg:Str->Option Value}{base:Heap}{f:Addr}{fd:FuncData}{c6 c1:Addr}{t3 t4:Tok}
theorem sT (F:Fn K mg "_law_read_line" iu ["_law_text"] f fd)(B:Bm mg)(fz:Fn K mg "_law_number" iz ["_law_word"] f1 fd1)(gi:Fn K mg "_law_end" mw ["_law_word"] f2 fd2):eX P w K mg base CX0 3 f fd ["_law_text"] (EY K):=by
 have jN:eX P w K mg base CX0 1 f1 fd1 ["_law_word"] uG:=nK fz B
 have mB:eX P w K mg base CX0 2 f2 fd2 ["_law_word"] uH:=ro gi B fz
 refine F.F.ok jG (λvs H Q E h=>?_) (λcdv A outer s H vs Q E hr h=>?_)
 ·obtain⟨z,rfl,_⟩:=h;rfl
 ·obtain⟨z,rfl,hz,kn,ks⟩:=h
  refine⟨_,(eP (vq (i:=1) jG.nd rfl rfl (gc (jt aS bg bP mP (pv 0) (eL eU eM))) rfl mW (.name (by decide)) (λ_ _ _ _=>(fe (i:=0) mW.nd rfl (Or.inl rfl))) (λ_ _ _ _=>gU) (λ_ _ _ _=>(IT (K:=K) rfl aS bg bP mP (pv 0) (eL eU eM))))
 (eP (fF (PW.pt (jS (fC (vy (fA fI rfl B.len bz (eL (fU fM (pv 1) eR (λ_ _=>rfl)) eM)) eR)) (jS (fL tY (fU fM (fU fM (pv 1) eR (λ_ _=>rfl)) eR (λ_ _=>rfl)) eU (gZ _)) (j9 (fC (nI (eS jN (hr.mono (by decide)) rfl fz.m fz.F.kp fz.b .nil fo (eL (fU fM (fU fM (pv 1) eR (λ_ _=>rfl)) eR (λ_ _=>rfl)) eM))))))))
 (eQ (fb ir)) fc)
 (eP (fk (i:=2) jG.nd rfl (Or.inl rfl) (fN eM))
 (eP (jT bC rfl (gc (gF iU (pv 1) (gX eR) gY)) (fe (i:=3) jG.nd rfl (Or.inl rfl))
 (eP (fF (PW.pt (jS (fC (vy (fA fI rfl B.len bz (eL (pv 3) eM)) eR)) (j9 (fL tY (fU fM (pv 3) eR (λ_ _=>rfl)) eU (gZ _)))))
 (eQ (fb ir)) fc)
 (eQ (iB (jt bj b8 bZ ko (pv 2) (eL (iq (eL (eS mB (hr.mono (by decide)) rfl gi.m gi.F.kp gi.b .nil fo (eL (fU fM (pv 3) eR (λ_ _=>rfl)) eM)) (eL (eS mB (hr.mono (by decide)) rfl gi.m gi.F.kp gi.b .nil fo (eL (fU fM (pv 3) eR (λ_ _=>rfl)) eM)) eM))) eM))))))
 (eP (fF (fC (pZ (fA fI rfl B.len bz (eL (og (gc (pv 2)) rfl mV (.name (by decide)) (λ_ _ _ _=>(fe (i:=0) mV.nd rfl (Or.inl rfl))) (λ_ _ _ _=>(mM (fL (vF (K:=K) rfl) ir (pv 0) (by with_unfolding_all rfl)))) (λ_ _ _ _=>(pv 0))) eM)) eR))
 (eQ (fb ir)) fc)
 (eQ (fb (iq (eL (eS jN (hr.mono (by decide)) rfl fz.m fz.F.kp fz.b .nil fo (eL (fU fM (fU fM (pv 1) eR (λ_ _=>rfl)) eR (λ_ _=>rfl)) eM)) (eL (pv 2) eM)))))))))),?_⟩
  refine⟨_,rfl,rfl,_,_,rfl,rfl,by decide,by omega,λq0 nq0=>?_⟩
  rw[CO]
  obtain⟨hd,tl,hsp⟩:∃ hd tl,Txt.split z (chS 10)=hd::tl:=by
   cases q:Txt.split z (chS 10)with
   |nil=>exact absurd q (kB z 10)
   |cons a r=>exact⟨a,r,rfl⟩
  have hpl:∀ x∈hd::tl,x.length<=20000:=λx hx=>by rw[<-hsp]at hx;have:=qI hx;omega
  have hwl:∀ x∈hd::tl,∀ y∈wds x,y.length<=20000:=λx hx y hy=>by have:=hpl x hx;have:=qI hy;omega
  have hlen:(hd::tl).length<=20001:=by have h:=i9 z 10;have:=jK (Txt.split z (chS 10));rw[hsp]at h this;omega
  have K3:=hlen
  rw[aH]at K3
  have hrd:gW z=(rdH hd).bind λm=>(qv (tl.map rdJ)).map λjs=>(m,js):=by unfold gW;rw[hsp]
  rw[hsp]
  have s1:eW H (upd H q0 (.lst ((hd::tl).map V.str))):=eN nq0
  have hq0:=eO (H:=H) (a:=q0) (o:=.lst ((hd::tl).map V.str))
  generalize upd H q0 _=H1 at s1 hq0 ⊢
  have hq0:SqL K H1 q0 ((hd::tl).map V.str):=SqL.of hq0
  have hzl:(hd::tl).length<sizeLine:=bA hlen (by rw[aE];decide)
  refine⟨q0,rfl,⟨_,hq0⟩,λl nl=>CC (K:=K) (hd::tl).length (hd::tl) (λr=>dS (wds r)) nl rfl hzl (λi H s hi=>(gr hq0).go i H s (by rw[aa];exact hi)) (λH s=>by have:=(gr hq0).stop H s;rw[aa]at this;exact this) ?_ ?_⟩
  ·intro i x d G G' sm ⟨vs',hl'⟩ y hd' P1 P0 k1
   have hi:i<(hd::tl).length:=(af.mp hd').1
   obtain⟨rfl,hx⟩:=(gr hq0).yld i G x G' sm (by rw[aa];exact hi) y
   rw[ah,hd']at hx
   cases hx
   refine iQ ?_
   have hdl:=hpl d (aB hd')
   refine⟨_,rfl,rfl,d,_,rfl,rfl,by decide,by omega,λp np=>k1 _ _ (eN np) ?_⟩
   refine iY.mpr ⟨p,_,rfl,SqL.of ?_,sx.mpr rfl⟩
   rw[nM (cB (ft hl' np)),eO,iD];rfl
  intro vr H2 s2 h2 D
  have D:Das K H2 ((hd::tl).map λr=>dS (wds r)) vr:=Das.same qe D
  have S2:=s1.trans s2
  obtain⟨v0,vt,rfl,D0,Dt⟩:=fO.mp D
  obtain⟨a0,rfl,ha0⟩:=CY D0
  have vtl:vt.length=tl.length:=by rw[Dgs.length Dt,aa]
  have no:rdH hd=none->∀ H',eW H2 H'->Q .non H':=λh H' s'=>kn (by rw[hrd,h];rfl) H' (S2.trans s')
  refine⟨_,rfl,l,_,0,_,rfl,rfl,SqL.of h2,ik (j:=0) rfl,a0,_,rfl,.inl ha0,_,_,rfl,rfl,_,rfl,fG (λh=>?_) (λh=>?_)⟩
  ·have h:¬(((wds hd).map V.str).length:Int)=2:=by simpa using h
   rw[aa]at h
   refine ib (no ?_ H2 (eW.refl _))
   unfold rdH
   match q:wds hd with
   |[]=>rfl
   |[a]=>rfl
   |[a,b]=>rw[q]at h;exact absurd rfl h
   |a::b::c::r=>rfl
  have h:(((wds hd).map V.str).length:Int)=2:=by simpa using h
  rw[aa]at h
  obtain⟨a,b,hw⟩:∃ a b,wds hd = [a,b]:=by
   match q:wds hd with
   |[]=>rw[q]at h;simp at h
   |[a]=>rw[q]at h;simp at h
   |[a,b]=>exact⟨a,b,rfl⟩
   |a::b::c::r=>rw[q]at h;simp at h;omega
  have hH:rdH hd=if a=Str.ofString "pieces" then g9 b.cps.toList else none:=by unfold rdH;rw[hw]
  have hb:b.length<=20000:=hwl hd au b (by rw[hw];simp)
  rw[hw]at ha0
  refine⟨_,rfl,l,_,0,_,rfl,rfl,SqL.of h2,ik (j:=0) rfl,a0,_,0,_,rfl,rfl,ha0,ik (j:=0) rfl,rfl,_,rfl,fG (λh=>?_) (λh=>?_)⟩
  ·have h:¬a=Str.ofString "pieces" :=by simpa using h
   exact ib (no (by rw[hH,ak h]) H2 (eW.refl _))
  have h:a=Str.ofString "pieces" :=by simpa using h
  rw[av h]at hH
  refine⟨_,rfl,l,_,0,_,rfl,rfl,SqL.of h2,ik (j:=0) rfl,a0,_,1,_,rfl,rfl,ha0,ik (j:=1) rfl,b,rfl,hb,λH3 s3=>?_⟩
  cases hm:g9 b.cps.toList with
  |none=>exact⟨_,rfl,ib (no (by rw[hH,hm]) H3 s3)⟩
  |some m=>
  refine⟨_,rfl,kJ ?_⟩
  rw[hH,hm]at hrd
  have hrd:gW z=(qv (tl.map rdJ)).map λjs=>(m,js):=hrd
  refine⟨aV _,λt nt=>?_⟩
  have s4:=eN (o:=.lst []) nt
  have S4:=s3.trans s4
  refine⟨_,rfl,_,rfl,l,_,rfl,SqL.of (S4 _ _ h2),λq nq=>?_⟩
  have ec:nO (V.ref a0::vt) (some 1) none=vt:=by rw[wg _ (by decide)];rfl
  rw[ec]
  have hqv:(upd (upd H3 t (.lst [])) q (.lst vt)) q=some (.lst vt):=eO
  have s5:=eN (o:=.lst vt) nq
  have htt:(upd (upd H3 t (.lst [])) q (.lst vt)) t=some (.lst []):=s5 _ _ eO
  have tq:t≠q:=λe=>by
   subst e
   rw[eO]at nq
   cases nq
  have S5:=S4.trans s5
  have nt2:H2 t=none:=mx s3 nt
  generalize upd (upd H3 t (.lst [])) q (.lst vt)=H5 at hqv htt S5 ⊢
  refine⟨q,rfl,⟨_,SqL.of hqv⟩,jE (K:=K) (a:=q) (xs:=vt) (λi σ H6=>∃ (x3:Option V) (us:List V) (ops:List (Option Int×Option Int)),σ = [some (.str z),some (.ref l),some (.ref t),x3]/\eW H2 H6/\H6 q=some (.lst vt)/\H6 t=some (.lst us)/\Dgs NoL (SqT K H6) (ops.map dO) us/\(tl.take i).map rdO=ops.map some)
   ⟨none,[],[],rfl,S5,hqv,htt,gA.mpr rfl,rfl⟩ (λi σ H6 _ ⟨_,_,_,_,_,e,_⟩=>SqL.of e) ?_ ?_⟩
  ·rintro i y σ H6 hi ⟨x3,us,ops,rfl,S6,hq6,ht6,DO,hO⟩
   have hil:i<vt.length:=(af.mp hi).1
   obtain⟨row,vY⟩:∃ row,tl[i]? = some row:=⟨tl[i]'(by omega),by simp⟩
   have hm':row∈tl:=aB vY
   obtain⟨d,hd',Dy⟩:=Dgs.get (Das.same S6 Dt) hi
   rw[ah,vY]at hd'
   cases hd'
   obtain⟨ai,rfl,hai⟩:=CY Dy
   have bad:rdO row=none->Q .non H6:=λh=>kn (by
    rw[hrd,mz (aA.mpr ⟨row,hm',by rw[HQ,h];rfl⟩)];rfl) H6 (S2.trans S6)
   refine⟨_,rfl,ai,_,rfl,.inl hai,_,_,rfl,rfl,_,rfl,fG (λh=>?_) (λh=>?_)⟩
   ·have h:¬(((wds row).map V.str).length:Int)=3:=by simpa using h
    rw[aa]at h
    refine ib (bad ?_)
    unfold rdO
    match q:wds row with
    |[]=>rfl
    |[a]=>rfl
    |[a,b]=>rfl
    |[a,b,c]=>rw[q]at h;exact absurd rfl h
    |a::b::c::d::r=>rfl
   have h:(((wds row).map V.str).length:Int)=3:=by simpa using h
   rw[aa]at h
   obtain⟨a',x,y,hw'⟩:∃ a b c,wds row = [a,b,c]:=by
    match q:wds row with
    |[]=>rw[q]at h;simp at h
    |[a]=>rw[q]at h;simp at h
    |[a,b]=>rw[q]at h;simp at h
    |[a,b,c]=>exact⟨a,b,c,rfl⟩
    |a::b::c::d::r=>rw[q]at h;simp at h;omega
   have hRO:rdO row=if a'=Str.ofString "joint" then some (gB x.cps.toList,gB y.cps.toList)else none:=by unfold rdO;rw[hw']
   have hx:x.length<=20000:=hwl row (aq _ hm') x (by rw[hw'];simp)
   have hy:y.length<=20000:=hwl row (aq _ hm') y (by rw[hw'];simp)
   rw[hw']at hai
   refine⟨_,rfl,ai,_,0,_,rfl,rfl,hai,ik (j:=0) rfl,rfl,_,rfl,fG (λh=>?_) (λh=>?_)⟩
   ·have h:¬a'=Str.ofString "joint" :=by simpa using h
    exact bad (by rw[hRO,ak h])
   have h:a'=Str.ofString "joint" :=by simpa using h
   rw[av h]at hRO
   refine⟨_,rfl,.inl ⟨rfl,_,SqL.of ht6⟩,?_⟩
   refine⟨_,rfl,ai,_,1,_,rfl,rfl,hai,ik (j:=1) rfl,x,rfl,hx,λH7 s7=>?_⟩
   refine⟨_,rfl,ai,_,2,_,rfl,rfl,s7.seq hai,ik (j:=2) rfl,y,rfl,hy,λH8 s8=>?_⟩
   refine⟨by show 2<=sizeLine;decide,λp np=>?_⟩
   have s9:=(s7.trans s8).trans (eN (o:=.tup [kI (gB x.cps.toList),kI (gB y.cps.toList)]) np)
   have hp9:=eO (H:=H8) (a:=p) (o:=.tup [kI (gB x.cps.toList),kI (gB y.cps.toList)])
   generalize upd H8 p _=H9 at s9 hp9 ⊢
   have ul:us.length=i:=by
    rw[Dgs.length DO,aa]
    have:=bF List.length hO
    rw[aa,aa,aI]at this
    omega
   refine⟨t,us,_,rfl,rfl,s9 _ _ ht6,bA (show us.length<=20000 by omega) (by rw[aE];decide),?_⟩
   refine⟨_,us ++ [.ref p],ops ++ [(gB x.cps.toList,gB y.cps.toList)],rfl,eW.upd (S6.trans s9) nt2,?_,eO,?_,?_⟩
   ·rw[fw (cB tq)];exact s9 _ _ hq6
   ·rw[aC]
    have ht9:=s9 _ _ ht6
    exact Dgs.append (Dgs.mono (λ_ _ h=>h) (λ_ _ h=>oJ ht9 (gv s9 h)) DO) (Dgs.one (gd.mpr ⟨p,_,rfl,oJ ht9 (SqT.of hp9),Dgs.two (Gz _) (Gz _)⟩))
   ·rw[bx,vY,aC,hO,aC]
    show _ ++ [rdO row]=_
    rw[hRO];rfl
  ·rintro σ H6 ⟨x3,us,ops,rfl,S6,hq6,ht6,DO,hO⟩
   rw[vtl,bo]at hO
   have ul:us.length=ops.length:=by rw[Dgs.length DO,aa]
   have ol:ops.length<=20000:=by
    have:=bF List.length hO
    rw[aa,aa]at this
    omega
   have hjs:tl.map rdJ=ops.map mkO:=by
    have:tl.map rdJ=(tl.map rdO).map λo=>o.bind mkO:=by rw[aY];exact List.map_congr_left λx _=>HQ x
    rw[this,hO,aY];rfl
   rw[hjs]at hrd
   have hSu:SqL K H6 t us:=SqL.of ht6
   refine⟨_,rfl,t,rfl,⟨_,hSu⟩,λg ng=>sf (gr hSu) (ops.zip us) (λd=>uC d.1) (λd=>d.2) ng (by rw[List.length_zip];omega) (bA (show us.length<=20000 by omega) (by rw[aE];decide)) ?_ ?_⟩
   ·intro i x d G hx hd' sm P1 P0 p1 p0
    obtain⟨op,v⟩:=d
    obtain⟨ho,hv⟩:=ek.mp hd'
    have e:x=v:=aZ (hx.symm.trans hv)
    subst e
    obtain⟨d',e1,Dx⟩:=Dgs.get DO hv
    rw[ah,ho]at e1
    cases e1
    obtain⟨ad,xs,rfl,hT,hD⟩:=gd.mp Dx
    have exs:xs = [kI op.1,kI op.2]:=by
     obtain⟨v1,r1,rfl,g1,g2⟩:=fO.mp hD
     obtain⟨v2,r2,rfl,g3,g4⟩:=fO.mp g2
     rw[gA.mp g4]
     have:∀ (o:Option Int) (v:V),Dg NoL (SqT K H6) (Eo o) v->v=kI o:=λo v h=>by
      cases o with
      |none=>simpa [Eo,Dg,kI]using h
      |some n=>exact gj.mp h
     rw[this _ _ g1,this _ _ g3]
    subst exs
    refine⟨_,rfl,ad,_,rfl,.inr (gv sm hT),rfl,Gs _ _,_,rfl,?_⟩
    refine fG (λh=>?_) (λh=>?_)
    ·have h:inV .non [kI op.1,kI op.2]=true:=h
     rw[CI]at h
     exact⟨_,rfl,p1 h⟩
    ·have h:¬inV .non [kI op.1,kI op.2]=true:=h
     rw[CI]at h
     exact p0 (by simpa using h)
   have s7:=eN (o:=.lst (((ops.zip us).filter λd=>uC d.1).map λd=>d.2)) ng
   have hg:=eO (H:=H6) (a:=g) (o:=.lst (((ops.zip us).filter λd=>uC d.1).map λd=>d.2))
   generalize upd H6 g _=H7 at s7 hg ⊢
   refine⟨g,_,rfl,.inl (SqL.of hg),_,_,rfl,rfl,_,rfl,fG (λh=>?_) (λh=>?_)⟩
   ·have h:((((ops.zip us).filter λd=>uC d.1).map λd=>d.2).length:Int)>0:=by simpa using h
    rw[aa]at h
    obtain⟨d,hd'⟩:=List.exists_mem_of_length_pos (show 0<((ops.zip us).filter λd=>uC d.1).length by omega)
    obtain⟨hd1,hd2⟩:=bJ.mp hd'
    have:d.1∈ops:=(List.of_mem_zip (show(d.1,d.2)∈ops.zip us from hd1)).1
    refine kn ?_ H7 (S2.trans (S6.trans s7))
    rw[hrd,mz (aA.mpr ⟨d.1,this,FT hd2⟩)];rfl
   have h:¬((((ops.zip us).filter λd=>uC d.1).map λd=>d.2).length:Int)>0:=by simpa using h
   rw[aa]at h
   have al:∀ op∈ops,uC op=false:=λop ho=>by
    obtain⟨i,hi⟩:=cK.mp ho
    have hil:i<ops.length:=(af.mp hi).1
    have hz':(ops.zip us)[i]? = some (op,us[i]'(by omega)):=ek.mpr ⟨hi,by simp⟩
    have h0:(ops.zip us).filter (λd=>uC d.1) = []:=cD (by omega)
    have:=List.filter_eq_nil_iff.mp h0 _ (aB hz')
    simpa using this
   obtain⟨js,hj1,hj2⟩:∃ js:List (Int×Int),ops.map mkO=js.map some/\ops.map dO=js.map dP:=all_some al
   rw[hj1,kX]at hrd
   have hrd:gW z=some (m,js):=hrd
   rw[hj2]at DO
   have S7:=S6.trans s7
   refine⟨_,rfl,l,_,0,_,rfl,rfl,SqL.of (S7 _ _ h2),ik (j:=0) rfl,a0,_,1,_,rfl,rfl,S7.seq ha0,ik (j:=1) rfl,b,rfl,hb,λH8 s8=>?_⟩
   rw[hm]
   refine⟨_,rfl,by show 2<=sizeLine;decide,λp np=>?_⟩
   have s9:=eN (o:=.tup [.int m,.ref t]) np
   have DP:Ps K H6 js us:=DO
   exact ks _ hrd _ _ (S2.trans (S7.trans (s8.trans s9))) (oo (l:=(m,js)) eO ((DP.same (s7.trans (s8.trans s9))).da ((s7.trans (s8.trans s9)) _ _ ht6)))
end
noncomputable def E1 (K:PySem.W.Frag):Sp:=λvs H Q _=>∃ (v:V) (l:Ln),vs = [v]/\Da K H (dL l) v/\(gb l->∀ H',eW H H'->Q (.bl true) H')/\(¬gb l->∀ H',eW H H'->Q (.bl false) H')
noncomputable abbrev lz:Stmt:=top 100
theorem jw:fh ["_law_line_here","_law_many","_law_joints","_law_one","_law_other_here"] ["_law_line_here"] (eT lz):=⟨rfl,rfl,rfl,by decide +kernel,rfl,by decide +kernel,by decide +kernel⟩
section
variable {P:Program}{w:World}{K:PySem.W.Frag}{mg:Str->Option Value}{base:Heap}{f:Addr}{fd:FuncData}
theorem vK (F:Fn K mg "_law_is_line" lz ["_law_line_here"] f fd)(B:Bm mg):eX P w K mg base CX0 1 f fd ["_law_line_here"] (E1 K):=by
 refine F.F.ok jw (λvs H Q E h=>?_) (λcdv A outer s H vs Q E hr h=>?_)
 ·obtain⟨v,l,rfl,_⟩:=h;rfl
 ·obtain⟨v,⟨m,js⟩,rfl,hv,k1,k2⟩:=h
  obtain⟨a,b,rfl,ht,us,hl,hq⟩:=i3 hv
  dsimp only at ht hq
  have hul:us.length=js.length:=by rw[Dgs.length hq,aa]
  obtain⟨ps,rfl,sk,hT⟩:=vB hq
  have hpl:ps.length=js.length:=by rw[aa]at hul;exact hul
  refine⟨_,(eP (nH (pv 0) (jk (n:=2) rfl (fu (fe (i:=1) jw.nd rfl (Or.inl rfl)) (fu (fe (i:=2) jw.nd rfl (Or.inl rfl)) gN))))
 (eP (fF (PW.pt (jS (fC (pL (pv 1) eR)) (jS (fC (pZ (pv 1) eR)) (jS (fC (pZ (fA fI rfl B.len bz (eL (pv 2) eM)) eR)) (j9 (fC (pL (fA Ez rfl B.len bz (eL (hZ (BS (Jr hr) rfl) rfl B.set boot_set (eL (pv 2) eM)) eM)) (fA fI rfl B.len bz (eL (pv 2) eM)))))))))
 (eQ (fb qX)) fc)
 (eP (jT bC rfl (gc (pv 2)) (jk (n:=2) rfl (fu (fe (i:=3) jw.nd rfl (Or.inl rfl)) (fu (fe (i:=4) jw.nd rfl (Or.inl rfl)) gN)))
 (eQ (fF (PW.pt (jS (fC (xQ (pv 3) (pv 4))) (jS (fC (pL (pv 3) eR)) (jS (fC (xQ (pv 4) (eY jm eR (pv 1)))) (j9 (fC (mO (eY gg (pv 3) eR) (eY gg (pv 4) eR))))))))
 (eQ (fb qX)) fc)))
 (eQ (fb qX))))),?_⟩
  refine⟨_,rfl,a,_,rfl,ht,rfl,_,_,rfl,_,_,rfl,rfl,?_⟩
  have no:∀ H',eW H H'->¬gb (m,js)->Q (.bl false) H':=λH' s n=>k2 n H' s
  refine⟨_,rfl,_,_,rfl,rfl,_,rfl,fG (λh=>?_) (λh=>?_)⟩
  ·have h:m<1:=by simpa using h
   exact ib (no H (eW.refl _) λz=>by have:=z.1;dsimp only at this;omega)
  have h1:¬m<1:=by simpa using h
  refine⟨_,rfl,_,_,rfl,rfl,_,rfl,fG (λh=>?_) (λh=>?_)⟩
  ·have h:m>40:=by simpa using h
   exact ib (no H (eW.refl _) λz=>by have:=z.2.1;dsimp only at this;omega)
  have h2:¬m>40:=by simpa using h
  refine⟨_,rfl,b,_,rfl,.inl hl,_,_,rfl,rfl,_,rfl,fG (λh=>?_) (λh=>?_)⟩
  ·have h:((ps.map λp=>V.ref p.2).length:Int)>80:=by simpa using h
   rw[aa,hpl]at h
   exact ib (no H (eW.refl _) λz=>by have:=z.2.2.1;dsimp only at this;omega)
  have h3:¬((ps.map λp=>V.ref p.2).length:Int)>80:=by simpa using h
  rw[aa,hpl]at h3
  refine⟨_,rfl,b,ps,rfl,hl,hT,by omega,λq ys nq M=>?_⟩
  have sq:=eN (o:=nQ P w q ys) nq
  have hq2:=eO (H:=H) (a:=q) (o:=nQ P w q ys)
  refine⟨q,ys,rfl,hq2,_,rfl,b,_,rfl,.inl (sq.seq hl),_,_,rfl,rfl,_,rfl,fG (λh=>?_) (λh=>?_)⟩
  ·have h:(ys.length:Int)<((ps.map λp=>V.ref p.2).length:Int):=by simpa using h
   rw[aa]at h
   have h:=M.lt.mp (by omega)
   rw[sk,Au]at h
   exact no (upd H q (nQ P w q ys)) sq λz=>h z.2.2.2.2
  have h:¬(ys.length:Int)<((ps.map λp=>V.ref p.2).length:Int):=by simpa using h
  rw[aa]at h
  have nd:js.Nodup:=by
   rw[<-Au,<-sk]
   exact aU λz=>h (by have:=M.lt.mpr z;omega)
  refine⟨_,rfl,b,rfl,⟨_,sq.seq hl⟩,jE (K:=K) (a:=b) (xs:=ps.map λp=>V.ref p.2) (λi σ H3=>∃ (x3 x4:Option V),σ = [some (.ref a),some (.int m),some (.ref b),x3,x4]/\H3=(upd H q (nQ P w q ys))/\(∀ p∈js.take i,okJ m p))
   ⟨none,none,rfl,rfl,λp hp=>by simp at hp⟩ (λi σ H3 _ ⟨_,_,_,e,_⟩=>e ▸ sq.seq hl) ?_ ?_⟩
  ·rintro i y σ H3 hi ⟨x3,x4,rfl,rfl,al⟩
   obtain⟨ad,⟨lo,hi'⟩,hji,rfl,hta⟩:=qg (Das.same sq hq) hi
   dsimp only at hta
   have htk:js.take (i+1)=js.take i ++ [(lo,hi')]:=by rw[bx,hji];rfl
   have bad:¬okJ m (lo,hi')->Q (.bl false) (upd H q (nQ P w q ys)):=λn=>no _ sq λz=>n (z.2.2.2.1 _ (aB hji))
   unfold okJ at bad
   dsimp only at bad
   refine⟨ad,_,rfl,hta,rfl,_,_,rfl,_,_,rfl,rfl,?_⟩
   refine⟨_,rfl,_,rfl,_,_,rfl,rfl,_,rfl,fG (λh=>?_) (λh=>?_)⟩
   ·have h:lo≥hi':=by simpa using h
    exact ib (bad λz=>z.2.2.2 (by have:=z.2.2.1;omega))
   have g1:¬lo≥hi':=by simpa using h
   refine⟨_,rfl,_,_,rfl,rfl,_,rfl,fG (λh=>?_) (λh=>?_)⟩
   ·have h:lo<0:=by simpa using h
    exact ib (bad λz=>by have:=z.1.1;omega)
   have g2:¬lo<0:=by simpa using h
   refine⟨_,rfl,_,rfl,_,_,rfl,rfl,.inl ⟨by decide,by decide⟩,_,_,rfl,rfl,_,rfl,fG (λh=>?_) (λh=>?_)⟩
   ·have h:hi'≥2*m:=by simpa using h
    exact ib (bad λz=>by have:=z.2.1.2;omega)
   have g3:¬hi'≥2*m:=by simpa using h
   refine⟨_,rfl,_,_,rfl,rfl,⟨by decide,by decide⟩,_,rfl,_,_,rfl,rfl,⟨by decide,by decide⟩,_,_,rfl,rfl,_,rfl,fG (λh=>?_) (λh=>?_)⟩
   ·have h:lo/2=hi'/2:=by simpa using h
    exact bad λz=>z.2.2.2 h
   have g4:¬lo/2=hi'/2:=by simpa using h
   refine⟨_,_,rfl,rfl,λp hp=>?_⟩
   rw[htk]at hp
   rcases aL.mp hp with z |z
   ·exact al p z
   ·have z:p=(lo,hi'):=by simpa using z
    subst z
    exact⟨by dsimp only;omega,by dsimp only;omega,by dsimp only;omega,g4⟩
  ·rintro σ H3 ⟨x3,x4,rfl,rfl,al⟩
   rw[aa,hpl,bo]at al
   exact k1 ⟨by dsimp only;omega,by dsimp only;omega,by dsimp only;omega,al,nd⟩ _ sq
end
theorem om (x:Str):∀ ws:List Str,inV (.str x) (ws.map V.str)=decide (x∈ws)
 |[]=>rfl
 |y::r=>by
  have ih:=om x r
  unfold inV at ih ⊢
  rw[aN,du,ih]
  have e:eqV (V.str y) (V.str x)=decide (y=x):=rfl
  rw[e]
  by_cases h:y=x
  ·simp[h]
  ·have h':¬x=y:=λz=>h z.symm
   simp[h,h']
theorem my:∀ ws:List Str,(ws.map V.str).all qf=true
 |[]=>rfl
 |y::r=>by rw[aN,eE,my r];rfl
noncomputable def opA:Option Nat->V
 |none=>.non
 |some j=>.str (txA (.error j))
noncomputable def StA (K:PySem.W.Frag)(H:Hp)(s:Addr)(S:DS):Prop:=∃ v u,H s=some (.lst [v,u])/\VL K H S.1 v/\VT K H S.2 u
theorem StA.same {H':Hp}{s:Addr}(h:StA K H s S)(m:eW H H'):StA K H' s S:=by
 obtain⟨v,u,h1,h2,h3⟩:=h
 exact⟨v,u,m _ _ h1,h2.same m,h3.same m⟩
theorem tA0:txA (.error 0)=Str.ofString "!line" :=by decide +kernel
theorem tA1:txA (.error 1)=Str.ofString "!move" :=by decide +kernel
theorem tA2:txA (.error 2)=Str.ofString "!piece" :=by decide +kernel
theorem tA3:txA (.error 3)=Str.ofString "!row" :=by decide +kernel
theorem tA4:txA (.error 4)=Str.ofString "!text" :=by decide +kernel
theorem tA5:txA (.error 5)=Str.ofString "!train" :=by decide +kernel
noncomputable def ntw:List Str:=[Str.ofString "train",Str.ofString "sides",Str.ofString "longest"]
noncomputable def tlf:List Str:=[Str.ofString "train",Str.ofString "least",Str.ofString "fewest"]
noncomputable def zV (K:PySem.W.Frag):Sp:=λvs H Q _=>∃ (s:Addr) (x:Str) (S:DS),vs = [.ref s,.str x]/\StA K H s S/\∀ H',eW H H'->Q (opA (kb (!decide (x∈ntw)) S)) H'
noncomputable def xr (K:PySem.W.Frag)(H:Hp)(x z:Str)(v:V):Prop:=if x∈tlf then Lq K H z v else if x=Str.ofString "sides" then v=kI (g9 z.cps.toList)else v=kI (gB z.cps.toList)
noncomputable def B8 (K:PySem.W.Frag):Sp:=λvs H Q _=>∃ (x z:Str),vs = [.str x,.str z]/\z.length<=20000/\∀ v H',eW H H'->xr K H' x z v->Q v H'
noncomputable abbrev nh:Stmt:=top 106
theorem yK:fh ["_law_state","_law_word"] ["_law_state","_law_word"] (eT nh):=⟨rfl,rfl,rfl,by decide +kernel,rfl,by decide +kernel,by decide +kernel⟩
noncomputable abbrev kG:Stmt:=top 104
theorem uq:fh ["_law_word","_law_rest"] ["_law_word","_law_rest"] (eT kG):=⟨rfl,rfl,rfl,by decide +kernel,rfl,by decide +kernel,by decide +kernel⟩
section
variable {P:Program}{w:World}{K:PySem.W.Frag}{mg:Str->Option Value}{base:Heap}{f:Addr}{fd:FuncData}
theorem y3 (F:Fn K mg "_law_lacks" nh ["_law_state","_law_word"] f fd)(B:Bm mg):eX P w K mg base CX0 1 f fd ["_law_state","_law_word"] (zV K):=by
 refine F.F.ok yK (λvs H Q E h=>?_) (λcdv A outer s H vs Q E hr h=>?_)
 ·obtain⟨s,x,S,rfl,_⟩:=h;rfl
 ·obtain⟨sa,x,S,rfl,⟨v,u,hd,hv,hu⟩,k⟩:=h
  refine⟨_,(eP (fF (fC (nI (fU fM (pv 0) eR (λ_ _=>rfl))))
 (eQ (fb eU)) fc)
 (eP (fF (PW.pt (oY (fC (nI (fU fM (pv 0) eR (λ_ _=>rfl)))) (mn (fL rW (pv 1) (fN (eL eU (eL eU (eL eU eM)))) (by with_unfolding_all rfl)))))
 (eQ (fb eU)) fc)
 (eQ (fb ir)))),?_⟩
  refine⟨_,rfl,sa,_,_,v,rfl,rfl,SqL.of hd,rfl,_,rfl,fG (λh=>?_) (λh=>?_)⟩
  ·have h:v = .non:=by simpa using h
   have:=k H (eW.refl _)
   rw[mQ ((gJ hv).mp h)]at this
   show Q (.str (Str.ofString "!line")) H
   rw[<-tA0];exact this
  obtain⟨l,hl⟩:∃ l,S.1=some l:=by
   cases q:S.1 with
   |none=>exact absurd ((gJ hv).mpr q) (by simpa using h)
   |some l=>exact⟨l,rfl⟩
  refine⟨_,rfl,sa,_,_,u,rfl,rfl,SqL.of hd,rfl,_,rfl,fG (λh=>?_) (λh=>?_)⟩
  ·have h:u = .non:=by simpa using h
   refine⟨_,rfl,by show 3<=sizeLine;decide,λpl npl=>?_⟩
   have s1:=eN (o:=.lst (ntw.map V.str)) npl
   have hpl:=eO (H:=H) (a:=pl) (o:=.lst (ntw.map V.str))
   refine⟨pl,ntw.map V.str,rfl,.inl (SqL.of hpl),rfl,my _,_,rfl,?_⟩
   show if(!inV (.str x) (ntw.map V.str))=true then _ else _
   rw[om]
   refine fG (λh'=>?_) (λh'=>?_)
   ·have:=k _ s1
    rw[h',qc hl ((iL hu).mp h)]at this
    show Q (.str (Str.ofString "!train")) _
    rw[<-tA5];exact this
   ·have:=k _ s1
    have e:(!decide (x∈ntw))=false:=by simpa using h'
    rw[e,lQ (t:=[]) hl (.inl rfl)]at this
    exact this
  ·obtain⟨t,ht⟩:∃ t,S.2=some t:=by
    cases q:S.2 with
    |none=>exact absurd ((iL hu).mpr q) (by simpa using h)
    |some l=>exact⟨l,rfl⟩
   refine kJ ?_
   have:=k H (eW.refl _)
   rw[lQ hl (.inr ht)]at this
   exact this
theorem uw (F:Fn K mg "_law_reads_to" kG ["_law_word","_law_rest"] f fd)(B:Bm mg)(fz:Fn K mg "_law_number" iz ["_law_word"] f1 fd1)(gi:Fn K mg "_law_end" mw ["_law_word"] f2 fd2)
  (h9:Fn K mg "_law_read_train" iN ["_law_text"] f3 fd3):eX P w K mg base CX0 4 f fd ["_law_word","_law_rest"] (B8 K):=by
 have jN:eX P w K mg base CX0 1 f1 fd1 ["_law_word"] uG:=nK fz B
 have mB:eX P w K mg base CX0 2 f2 fd2 ["_law_word"] uH:=ro gi B fz
 have tP:eX P w K mg base CX0 3 f3 fd3 ["_law_text"] (EX K):=rZ h9 B fz gi
 refine F.F.ok uq (λvs H Q E h=>?_) (λcdv A outer s H vs Q E hr h=>?_)
 ·obtain⟨x,z,rfl,_⟩:=h;rfl
 ·obtain⟨x,z,rfl,hz,k⟩:=h
  refine⟨_,(eP (fF (fL oh (pv 0) (fN (eL eU (eL eU (eL eU eM)))) (by with_unfolding_all rfl))
 (eQ (fb (eS tP (hr.mono (by decide)) rfl h9.m h9.F.kp h9.b .nil fo (eL (pv 1) eM)))) fc)
 (eP (fF (fL oi (pv 0) eU (gZ _))
 (eQ (fb (eS jN (hr.mono (by decide)) rfl fz.m fz.F.kp fz.b .nil fo (eL (pv 1) eM)))) fc)
 (eQ (fb (eS mB (hr.mono (by decide)) rfl gi.m gi.F.kp gi.b .nil fo (eL (pv 1) eM)))))),?_⟩
  refine⟨_,rfl,by show 3<=sizeLine;decide,λpl npl=>?_⟩
  have s1:=eN (o:=.lst (tlf.map V.str)) npl
  have hpl:=eO (H:=H) (a:=pl) (o:=.lst (tlf.map V.str))
  refine⟨pl,tlf.map V.str,rfl,.inl (SqL.of hpl),rfl,my _,_,rfl,?_⟩
  show if inV (.str x) (tlf.map V.str)=true then _ else _
  rw[om]
  refine fG (λh=>?_) (λh=>?_)
  ·have h:x∈tlf:=by simpa using h
   exact⟨_,rfl,z,rfl,hz,λv H2 s2 dv=>k v H2 (s1.trans s2) (by unfold xr;rw[av h];exact dv)⟩
  have h1:x∉tlf:=by simpa using h
  refine⟨_,rfl,rfl,_,rfl,fG (λh=>?_) (λh=>?_)⟩
  ·have h:x=Str.ofString "sides" :=by simpa using h
   exact⟨_,rfl,z,rfl,hz,λH2 s2=>k _ H2 (s1.trans s2) (by unfold xr;rw[ak h1,av h])⟩
  ·have h:¬x=Str.ofString "sides" :=by simpa using h
   exact⟨_,rfl,z,rfl,hz,λH2 s2=>k _ H2 (s1.trans s2) (by unfold xr;rw[ak h1,ak h])⟩
end
inductive ThD (K:PySem.W.Frag) (H:Hp) (Q:VK) (S:DS) (l:Ln) (x:Str) (v:V):Prop
 |tr (hx:x=Str.ofString "train") (ns:List Int) (hv:Da K H (dI ns) v) (hne:ns≠ []) (hz:ns.length<=900) (y:isT l ns->∀ H',eW H H'->Q .non H') (n:¬isT l ns->∀ H',eW H H'->Q (.str (Str.ofString "!train")) H')
 |go (hx:x=Str.ofString "least" \/x=Str.ofString "fewest") (ns t:List Int) (ht:S.2=some t) (hv:Da K H (dI ns) v) (hne:ns≠ []) (hz:ns.length<=900) (y:gOk l t ns->∀ H',eW H H'->Q .non H') (n:¬gOk l t ns->∀ H',eW H H'->Q (.str (Str.ofString "!train")) H')
 |si (hx:x=Str.ofString "sides") (m:Int) (hv:v = .int m) (y:m<l.1->∀ H',eW H H'->Q .non H') (n:¬m<l.1->∀ H',eW H H'->Q (.str (Str.ofString "!piece")) H')
 |mv (hx:x=Str.ofString "on" \/x=Str.ofString "back") (e:Int) (t:List Int) (ht:S.2=some t) (hv:v = .int e) (y:∀ b,fnd (mvs l t) (x,e)=some b->∀ H',eW H H'->Q .non H') (n:fnd (mvs l t) (x,e)=none->∀ H',eW H H'->Q (.str (Str.ofString "!move")) H')
noncomputable def zQ (K:PySem.W.Frag):Sp:=λvs H Q _=>∃ (s:Addr) (x:Str) (v:V) (S:DS) (l:Ln),vs = [.ref s,.str x,v]/\StA K H s S/\DOk S/\S.1=some l/\ThD K H Q S l x v
theorem Jc {run:List (Str×Int)}(h:∀ k∈run,PyData.strOk k.1=true):HG (run.map dM):=by
 have h:=Kx h
 unfold dR at h
 refine⟨by have:=h.1;rwa [PyData.canLay0]at this,?_⟩
 have:=h.2
 rw[PyData.depth]at this
 omega
theorem Lk (run:List (Str×Int))(k:Str×Int):((run.map dM).any λz=>PyData.eqv z (dM k))=decide (k∈run):=by
 rw[List.any_map,bT,dt,cF]
 constructor
 ·rintro⟨y,hy,e⟩
  have e:PyData.eqv (dM y) (dM k)=true:=e
  rw[Gw,cF]at e
  exact e ▸ hy
 ·exact λh=>⟨k,h,by show PyData.eqv (dM k) (dM k)=true;rw[Gw];exact cP rfl⟩
theorem Gr {ms:List Mv}{k:Str×Int} :k∈ms.map (·.1)↔∃ b,fnd ms k=some b:=by
 unfold fnd
 constructor
 ·intro h
  obtain⟨m,hm,rfl⟩:=aA.mp h
  cases q:ms.find? λn=>decide (n.1=m.1)with
  |none=>exact absurd (List.find?_eq_none.mp q m hm) (by simp)
  |some n=>exact⟨_,rfl⟩
 ·rintro⟨b,hb⟩
  obtain⟨m,h1,_⟩:=cH.mp hb
  exact aA.mpr ⟨m,cT h1,by simpa using List.find?_some h1⟩
noncomputable abbrev i6:Stmt:=top 107
theorem kT:fh ["_law_state","_law_word","_law_thing","_law_line_here","_law_train_here"] ["_law_state","_law_word","_law_thing"] (eT i6):=⟨rfl,rfl,rfl,by decide +kernel,rfl,by decide +kernel,by decide +kernel⟩
theorem kd:gp (eT i6) ["_law_state","_law_word","_law_thing","_law_line_here","_law_train_here"] {kind:=.function,names:=[(Str.ofString ".0",.local),(Str.ofString "_law_move",.local),(Str.ofString "_law_behind",.local)],isGenerator:=false,isCoroutine:=false,more:=[]} ["_law_move","_law_behind"] 2 [none,none]:=⟨rfl,by decide +kernel,by decide +kernel,by decide +kernel,rfl,by decide +kernel,rfl,by decide +kernel⟩
section
variable {P:Program}{w:World}{K:PySem.W.Frag}{mg:Str->Option Value}{base:Heap}{f:Addr}{fd:FuncData}
theorem sS (F:Fn K mg "_law_thing_due" i6 ["_law_state","_law_word","_law_thing"] f fd)(B:Bm mg)
  (iT:Fn K mg "_law_is_train" jB ["_law_line_here","_law_train_here"] f1 fd1) (m3:eX P w K mg base CX0 2 f1 fd1 ["_law_line_here","_law_train_here"] (EZ K))
  (kA:Fn K mg "_law_moves" lG ["_law_line_here","_law_train_here"] f2 fd2) (qy:eX P w K mg base CX0 2 f2 fd2 ["_law_line_here","_law_train_here"] (zU K)):
  eX P w K mg base CX0 3 f fd ["_law_state","_law_word","_law_thing"] (zQ K):=by
 refine F.F.ok kT (λvs H Q E h=>?_) (λcdv A outer s H vs Q E hr h=>?_)
 ·obtain⟨s,x,v,S,l,rfl,_⟩:=h;rfl
 ·obtain⟨sa,x,th,S,l,rfl,⟨v,u,hd,hv,hu⟩,dS,hl,hth⟩:=h
  have il:=dS.l l hl
  have ok:=DOk.lok dS hl
  rw[hl]at hv
  have hv:Da K H (dL l) v:=hv
  obtain⟨al,bl,rfl,hlt,us,hll,hlq⟩:=i3 hv
  refine⟨_,(eP (nH (pv 0) (Fu (n:=2) rfl (fu (fe (i:=3) kT.nd rfl (Or.inl rfl)) (fu (fe (i:=4) kT.nd rfl (Or.inl rfl)) gN))))
 (eP (fF (fL oh (pv 1) (fN (eL eU (eL eU (eL eU eM)))) (by with_unfolding_all rfl))
 (eP (fF (PW.pt (jS (nG (rk (eS m3 (hr.mono (by decide)) rfl iT.m iT.F.kp iT.b .nil fo (eL (pv 3) (eL (pv 2) eM))))) (j9 (PW.pt (oY (fL tY (pv 1) eU (gZ _)) (mn (fC (vy (fA fI rfl B.len bz (eL (pv 2) eM)) (fA fI rfl B.len bz (eL (pv 4) eM))))))))))
 (eQ (fb eU)) fc)
 (eQ (fb ir))) fc)
 (eP (fF (fL oi (pv 1) eU (gZ _))
 (eQ (fb (fU fM (fN (eL ir (eL eU eM))) (hZ oy rfl B.int boot_int (eL (Bt (xQ (pv 2) (fU lR (pv 3) eR (λ_ _=>rfl)))) eM)) (λ_ _=>rfl)))) fc)
 (eP (fF (fL (kW hr.units) (iq (eL (pv 1) (eL (pv 2) eM))) (og (gc (eS qy (hr.mono (by decide)) rfl kA.m kA.F.kp kA.b .nil fo (eL (pv 3) (eL (pv 4) eM)))) rfl kd (.tup (.cons (.name (by decide)) (.cons (.name (by decide)) .nil))) (λ_ _ _ _=>(jk (n:=2) rfl (fu (fe (i:=0) kd.nd rfl (Or.inl rfl)) (fu (fe (i:=1) kd.nd rfl (Or.inl rfl)) gN)))) (λ_ _ _ _=>gU) (λ_ _ _ _=>(pv 0))) (by with_unfolding_all rfl))
 (eQ (fb eU)) fc)
 (eQ (fb ir)))))),?_⟩
  refine⟨_,rfl,sa,_,rfl,SqL.of hd,rfl,_,_,rfl,_,_,rfl,rfl,?_⟩
  refine⟨_,rfl,by show 3<=sizeLine;decide,λpl npl=>?_⟩
  have s1:=eN (o:=.lst [.str "train",.str "least",.str "fewest"]) npl
  have hpl:=eO (H:=H) (a:=pl) (o:=.lst [.str "train",.str "least",.str "fewest"])
  refine⟨pl,tlf.map V.str,rfl,.inl (SqL.of hpl),rfl,my _,_,rfl,?_⟩
  show if inV (.str x) (tlf.map V.str)=true then _ else _
  rw[om]
  have hd1:=s1 _ _ hd
  have hv1:=Da.same s1 hv
  have K1:=gv s1 hlt
  generalize upd H pl _=H1 at s1 hpl hd1 hv1 K1 ⊢
  cases hth with
  |tr hx ns hth hne hz y n=>
   subst hx
   refine fG (λ_=>?_) (λh=>absurd (by decide +kernel) h)
   refine⟨_,rfl,_,rfl,_,_,l,ns,rfl,hv1,Da.same s1 hth,ok,gb.ne il,hne,hz,λT H2 s2=>?_,λT H2 s2=>?_⟩
   ·refine⟨_,rfl,kJ ⟨_,rfl,rfl,_,rfl,fG (λh=>absurd h (by simp)) (λ_=>kJ (y ⟨hne,T⟩ H2 (s1.trans s2)))⟩⟩
   ·exact⟨_,rfl,ib (ib (n (λz=>T z.2) H2 (s1.trans s2)))⟩
  |go hx ns t ht hth hne hz y n=>
   have hin:decide (x∈tlf)=true:=by rcases hx with rfl |rfl<;>decide +kernel
   have hxt:x≠Str.ofString "train" :=by rcases hx with rfl |rfl<;>decide +kernel
   rw[ht]at hu
   have hu:Da K H (dI t) u:=hu
   obtain⟨ta,rfl,hta⟩:=iJ.mp hu
   obtain⟨tb,rfl,htb⟩:=iJ.mp hth
   refine fG (λ_=>?_) (λh=>absurd hin h)
   refine⟨_,rfl,_,rfl,_,_,l,ns,rfl,hv1,Da.same s1 hth,ok,gb.ne il,hne,hz,λT H2 s2=>?_,λT H2 s2=>?_⟩
   ·have S2:=s1.trans s2
    refine⟨_,rfl,kJ ⟨_,rfl,rfl,_,rfl,fG (λ_=>?_) (λh=>absurd (by simpa using hxt) h)⟩⟩
    refine⟨_,rfl,tb,_,rfl,.inl (S2.seq htb),_,rfl,ta,_,rfl,.inl (S2.seq hta),_,_,rfl,rfl,_,rfl,fG (λh=>?_) (λh=>?_)⟩
    ·have h:((ns.map V.int).length:Int)≠((t.map V.int).length:Int):=by simpa using h
     rw[aa,aa]at h
     exact n (λz=>h (by rw[z.2])) H2 S2
    ·have h:((ns.map V.int).length:Int)=((t.map V.int).length:Int):=by simpa using h
     rw[aa,aa]at h
     exact y ⟨⟨hne,T⟩,by omega⟩ H2 S2
   ·exact⟨_,rfl,ib (ib (n (λz=>T z.1.2) H2 (s1.trans s2)))⟩
  |si hx m hth y n=>
   subst hx hth
   refine fG (λh=>absurd h (by decide +kernel)) (λ_=>?_)
   refine⟨_,rfl,rfl,_,rfl,fG (λ_=>?_) (λh=>absurd (by simp) h)⟩
   refine⟨by show 2<=sizeLine;decide,λp2 n2=>?_⟩
   have s2:=s1.trans (eN (o:=.lst [.non,.str "!piece"]) n2)
   have hp2:=eO (H:=H1) (a:=p2) (o:=.lst [.non,.str "!piece"])
   have Eg:=gv (eN (o:=.lst [.non,.str "!piece"]) n2) K1
   generalize upd H1 p2 _=H2 at s2 hp2 Eg ⊢
   by_cases c:m<l.1
   ·refine⟨_,rfl,_,rfl,al,_,_,_,rfl,rfl,Eg,rfl,_,_,rfl,rfl,.inr ⟨_,rfl,p2,_,_,.non,rfl,rfl,SqL.of hp2,?_,y c H2 s2⟩⟩
    have e:decide (m≥l.1)=false:=by simpa using c
    show atI _ (if decide (m≥l.1)=true then 1 else 0)=_
    rw[e];rfl
   ·refine⟨_,rfl,_,rfl,al,_,_,_,rfl,rfl,Eg,rfl,_,_,rfl,rfl,.inr ⟨_,rfl,p2,_,_,.str "!piece",rfl,rfl,SqL.of hp2,?_,n c H2 s2⟩⟩
    have e:decide (m≥l.1)=true:=by simpa using c
    show atI _ (if decide (m≥l.1)=true then 1 else 0)=_
    rw[e];rfl
  |mv hx e t ht hth y n=>
   subst hth
   have hin:¬decide (x∈tlf)=true:=by rcases hx with rfl |rfl<;>decide +kernel
   have hxs:x≠Str.ofString "sides" :=by rcases hx with rfl |rfl<;>decide +kernel
   rw[ht]at hu
   have hu:Da K H (dI t) u:=hu
   obtain⟨l',hl',it⟩:=dS.t t ht
   rw[hl]at hl'
   cases hl'
   have oN:=isT.okN il it
   have ml:=Cv ok t
   refine fG (λh=>absurd h hin) (λ_=>?_)
   refine⟨_,rfl,rfl,_,rfl,fG (λh=>absurd h (by simpa using hxs)) (λ_=>?_)⟩
   refine⟨_,rfl,_,rfl,by show 2<=sizeLine;decide,λp2 n2=>?_⟩
   have u2:=eN (o:=.tup [.str x,.int e]) n2
   have s2:=s1.trans u2
   have hp2:=eO (H:=H1) (a:=p2) (o:=.tup [.str x,.int e])
   generalize upd H1 p2 _=H2 at s2 hp2 u2 ⊢
   refine⟨_,rfl,_,rfl,_,_,l,t,rfl,Da.same s2 hv,Da.same s2 hu,ok,gb.ne il,it.1,by have:=oN.1;omega,λpm vm H3 s3 npm hpm Dm=>⟨pm,rfl,⟨_,SqL.of hpm⟩,λq nq=>AE (K:=K) hpm Dm (by omega) nq λus H4 s4 hq4 D4=>?_⟩⟩
   have S4:=s2.trans (s3.trans s4)
   have DD:Da K H4 (dR ((mvs l t).map (·.1))) (.ref q):=iY.mpr ⟨q,us,rfl,SqL.of hq4,Das.same (qe (p:=q)) D4⟩
   obtain⟨run,Hs⟩:∃ run,run=(mvs l t).map (·.1):=⟨_,rfl⟩
   rw[<-Hs]at DD
   refine⟨run.map dM,dM (x,e),DD,gd.mpr ⟨p2,_,rfl,SqT.of ((s3.trans s4) _ _ hp2),Dgs.two (nN.mpr rfl) (gj.mpr rfl)⟩,Jc (λk hk=>by rw[Hs]at hk;obtain⟨mm,hm,rfl⟩:=aA.mp hk;exact xD l t mm hm),Cs (mE hx),_,rfl,?_⟩
   show if(!((run.map dM).any λz=>PyData.eqv z (dM (x,e))))=true then _ else _
   rw[Lk]
   refine fG (λh=>?_) (λh=>?_)
   ·have h:(x,e)∉run:=by simpa using h
    refine n ?_ H4 S4
    cases q:fnd (mvs l t) (x,e)with
    |none=>rfl
    |some b=>exact absurd (by rw[Hs];exact Gr.mpr ⟨b,q⟩) h
   ·have h:(x,e)∈run:=by simpa using h
    rw[Hs]at h
    obtain⟨b,hb⟩:=Gr.mp h
    exact y b hb H4 S4
end
noncomputable def xG (K:PySem.W.Frag):Sp:=λvs H Q _=>∃ (s:Addr) (row:Str) (S:DS),vs = [.ref s,.str row]/\StA K H s S/\DOk S/\row.length<=780/\∀ H',eW H H'->Q (opA (oX S row)) H'
theorem KC:∀ x∈kaw,(!decide (x∈ntw)) = !decide (x=Str.ofString "longest"):=by decide +kernel
noncomputable abbrev lx:Stmt:=top 105
theorem ia:fh ["_law_state","_law_row","_law_word","_law_blank","_law_rest","_law_line_here","_law_thing","_law_lack"] ["_law_state","_law_row"] (eT lx):=⟨rfl,rfl,rfl,by decide +kernel,rfl,by decide +kernel,by decide +kernel⟩
section
variable {P:Program}{w:World}{K:PySem.W.Frag}{mg:Str->Option Value}{base:Heap}{f:Addr}{fd:FuncData}
theorem vI (F:Fn K mg "_law_row_due" lx ["_law_state","_law_row"] f fd)(B:Bm mg)
  (iE:Fn K mg "_law_lacks" nh ["_law_state","_law_word"] f1 fd1) (iy:Fn K mg "_law_read_line" iu ["_law_text"] f2 fd2) (lX:eX P w K mg base CX0 3 f2 fd2 ["_law_text"] (EY K))
  (jg:Fn K mg "_law_is_line" lz ["_law_line_here"] f3 fd3) (iS:Fn K mg "_law_reads_to" kG ["_law_word","_law_rest"] f4 fd4) (mZ:eX P w K mg base CX0 4 f4 fd4 ["_law_word","_law_rest"] (B8 K))
  (ix:Fn K mg "_law_thing_due" i6 ["_law_state","_law_word","_law_thing"] f5 fd5) (lW:eX P w K mg base CX0 3 f5 fd5 ["_law_state","_law_word","_law_thing"] (zQ K)):
  eX P w K mg base CX0 5 f fd ["_law_state","_law_row"] (xG K):=by
 have uk:eX P w K mg base CX0 1 f1 fd1 ["_law_state","_law_word"] (zV K):=y3 iE B
 have xw:eX P w K mg base CX0 1 f3 fd3 ["_law_line_here"] (E1 K):=vK jg B
 refine F.F.ok ia (λvs H Q E h=>?_) (λcdv A outer s H vs Q E hr h=>?_)
 ·obtain⟨s,row,S,rfl,_⟩:=h;rfl
 ·obtain⟨sa,row,S,rfl,hS,dS,rl,k⟩:=h
  refine⟨_,(eP (nH (jt aS dX PySem.F.type_str_partition se (pv 1) (eL eU eM)) (jk (n:=3) rfl (fu (fe (i:=2) ia.nd rfl (Or.inl rfl)) (fu (fe (i:=3) ia.nd rfl (Or.inl rfl)) (fu (fe (i:=4) ia.nd rfl (Or.inl rfl)) gN)))))
 (eP (fF (PW.pt (oY (fL oi (pv 3) eU (gZ _)) (mn (fL oh (pv 2) (fN (eL eU (eL eU (eL eU (eL eU (eL eU (eL eU eM))))))) (by with_unfolding_all rfl)))))
 (eQ (fb (eS uk (hr.mono (by decide)) rfl iE.m iE.F.kp iE.b .nil fo (eL (pv 0) (eL (pv 2) eM))))) fc)
 (eP (fF (PW.pt (jS (fL oi (pv 4) eU (gZ _)) (j9 (fL rW (pv 2) (fN (eL eU (eL eU (eL eU (eL eU (eL eU (eL eU (eL eU eM)))))))) (by with_unfolding_all rfl)))))
 (eQ (fb eU)) fc)
 (eP (fF (fL oi (pv 2) eU (gZ _))
 (eP (fk (i:=5) ia.nd rfl (Or.inl rfl) (eS lX (hr.mono (by decide)) rfl iy.m iy.F.kp iy.b .nil fo (eL (pv 4) eM)))
 (eP (fF (fC (nI (pv 5)))
 (eQ (fb eU)) fc)
 (eQ (fb (fU fM (fN (eL ir (eL eU eM))) (hZ oy rfl B.int boot_int (eL (IS (eS xw (hr.mono (by decide)) rfl jg.m jg.F.kp jg.b .nil fo (eL (pv 5) eM))) eM)) (λ_ _=>rfl)))))) fc)
 (eP (fk (i:=6) ia.nd rfl (Or.inl rfl) (eS mZ (hr.mono (by decide)) rfl iS.m iS.F.kp iS.b .nil fo (eL (pv 2) (eL (pv 4) eM))))
 (eP (fF (fC (nI (pv 6)))
 (eQ (fb eU)) fc)
 (eP (fk (i:=7) ia.nd rfl (Or.inl rfl) (eS uk (hr.mono (by decide)) rfl iE.m iE.F.kp iE.b .nil fo (eL (pv 0) (eL (pv 2) eM))))
 (eP (fF (fC (rT (pv 7)))
 (eQ (fb (pv 7))) fc)
 (eQ (fb (eS lW (hr.mono (by decide)) rfl ix.m ix.F.kp ix.b .nil fo (eL (pv 0) (eL (pv 2) (eL (pv 6) eM)))))))))))))),?_⟩
  refine⟨_,rfl,rfl,_,_,rfl,rfl,by decide,by omega,λp np=>?_⟩
  rw[iD]
  have s1:=eN (o:=.tup [.str (prt row).1,.str (prt row).2.1,.str (prt row).2.2]) np
  have hp:=eO (H:=H) (a:=p) (o:=.tup [.str (prt row).1,.str (prt row).2.1,.str (prt row).2.2])
  generalize upd H p _=H1 at s1 hp ⊢
  refine⟨p,_,rfl,SqT.of hp,rfl,_,_,rfl,_,_,rfl,_,_,rfl,rfl,?_⟩
  obtain⟨l1,l2,l3⟩:=yR row
  unfold oX at k
  have mt:Str.ofString "" = Str.empty:=by decide +kernel
  generalize (prt row).1=x at k l1 ⊢
  generalize (prt row).2.1=b at k l2 ⊢
  generalize (prt row).2.2=z at k l3 ⊢
  dsimp only
  refine qF (λσ G=>σ = [some (.ref sa),some (.str row),some (.str x),some (.str b),some (.str z),none,none,none]/\eW H G/\¬(b=Str.empty/\x∈kaw)) (λnx kn=>?_) ?_
  ·refine⟨_,rfl,rfl,_,rfl,fG (λh=>?_) (λh=>?_)⟩
   ·have h:b=Str.empty:=by rw[<-mt];simpa using h
    refine⟨_,rfl,by show 6<=sizeLine;decide,λpl npl=>?_⟩
    have s2:=s1.trans (eN (o:=.lst [.str "round",.str "moves",.str "here",.str "turn",.str "standings",.str "longest"]) npl)
    have hpl:=eO (H:=H1) (a:=pl) (o:=.lst [.str "round",.str "moves",.str "here",.str "turn",.str "standings",.str "longest"])
    generalize upd H1 pl _=H2 at s2 hpl ⊢
    refine⟨pl,kaw.map V.str,rfl,.inl (SqL.of hpl),rfl,my _,_,rfl,?_⟩
    show if inV (.str x) (kaw.map V.str)=true then _ else _
    rw[om]
    refine fG (λh'=>?_) (λh'=>kn _ _ ⟨rfl,s2,λz=>h' (cP z.2)⟩)
    have h':x∈kaw:=by simpa using h'
    refine⟨_,rfl,_,rfl,sa,x,S,rfl,hS.same s2,λH3 s3=>?_⟩
    have:=k H3 (s2.trans s3)
    rw[av ⟨h,h'⟩]at this
    rw[KC x h']
    exact this
   ·exact kJ (kn _ _ ⟨rfl,s1,λz=>h (by rw[z.1,<-mt];simp)⟩)
  rintro σ G ⟨rfl,sG,no1⟩
  rw[ak no1]at k
  clear s1 hp np
  refine qF (λσ G=>σ = [some (.ref sa),some (.str row),some (.str x),some (.str b),some (.str z),none,none,none]/\eW H G/\z≠Str.empty/\x∈krw) (λnx kn=>?_) ?_
  ·refine⟨_,rfl,rfl,_,rfl,fG (λh=>?_) (λh=>?_)⟩
   ·have h:z=Str.empty:=by rw[<-mt];simpa using h
    rw[av (.inl h)]at k
    have:=k G sG
    refine ib ?_
    show Q (.str (Str.ofString "!row")) G
    rw[<-tA3];exact this
   ·have h:z≠Str.empty:=λy=>h (by rw[y,<-mt];simp)
    refine⟨_,rfl,by show 7<=sizeLine;decide,λpl npl=>?_⟩
    have s2:=sG.trans (eN (o:=.lst [.str "line",.str "train",.str "on",.str "back",.str "least",.str "fewest",.str "sides"]) npl)
    have hpl:=eO (H:=G) (a:=pl) (o:=.lst [.str "line",.str "train",.str "on",.str "back",.str "least",.str "fewest",.str "sides"])
    generalize upd G pl _=H2 at s2 hpl ⊢
    refine⟨pl,krw.map V.str,rfl,.inl (SqL.of hpl),rfl,my _,_,rfl,?_⟩
    show if(!inV (.str x) (krw.map V.str))=true then _ else _
    rw[om]
    refine fG (λh'=>?_) (λh'=>kn _ _ ⟨rfl,s2,h,by simpa using h'⟩)
    have h':x∉krw:=by simpa using h'
    rw[av (.inr h')]at k
    have:=k H2 s2
    show Q (.str (Str.ofString "!row")) H2
    rw[<-tA3];exact this
  rintro σ G ⟨rfl,sG,zn,xin⟩
  rw[ak (by rintro(y |y);exact zn y;exact y xin)]at k
  unfold Fd at k
  refine⟨_,rfl,rfl,_,rfl,fG (λh=>?_) (λh=>?_)⟩
  ·have h:x=Str.ofString "line" :=by simpa using h
   rw[av h]at k
   refine⟨_,rfl,z,rfl,by omega,λhn H2 s2=>?_,λl hl v H2 s2 hv=>?_⟩
   ·refine⟨_,rfl,_,rfl,ib ?_⟩
    have:=k H2 (sG.trans s2)
    have e:pW z=some 4:=by unfold pW;rw[hn]
    rw[e]at this
    show Q (.str (Str.ofString "!text")) H2
    rw[<-tA4];exact this
   ·obtain⟨al,bl,rfl,hlt,us,hll,hlq⟩:=i3 hv
    refine⟨_,rfl,_,rfl,kJ ?_⟩
    refine⟨by show 2<=sizeLine;decide,λp2 n2=>?_⟩
    have s3:=s2.trans (eN (o:=.lst [.non,.str "!line"]) n2)
    have u3:=eN (o:=.lst [.non,.str "!line"]) n2
    have hp2:=eO (H:=H2) (a:=p2) (o:=.lst [.non,.str "!line"])
    generalize upd H2 p2 _=H3 at s3 hp2 u3 ⊢
    refine⟨_,rfl,_,l,rfl,Da.same u3 hv,λil H4 s4=>?_,λil H4 s4=>?_⟩
    ·have:=k H4 (sG.trans (s3.trans s4))
     have e:pW z=none:=by unfold pW;rw[hl];exact av il
     rw[e]at this
     exact⟨_,rfl,.inr ⟨_,rfl,p2,_,_,.non,rfl,rfl,SqL.of (s4 _ _ hp2),rfl,this⟩⟩
    ·have:=k H4 (sG.trans (s3.trans s4))
     have e:pW z=some 0:=by unfold pW;rw[hl];exact ak il
     rw[e]at this
     refine⟨_,rfl,.inr ⟨_,rfl,p2,_,_,.str "!line",rfl,rfl,SqL.of (s4 _ _ hp2),rfl,?_⟩⟩
     show Q (.str (Str.ofString "!line")) H4
     rw[<-tA0];exact this
  have nl:¬x=Str.ofString "line" :=by simpa using h
  rw[ak nl]at k
  refine⟨_,rfl,_,rfl,x,z,rfl,by omega,λv H2 s2 hv=>?_⟩
  have S2:=sG.trans s2
  unfold krw at xin
  simp only[ay,aW,b9]at xin
  rcases xin with rfl |rfl |rfl |rfl |rfl |rfl |rfl
  ·exact absurd rfl nl
  ·rw[av rfl]at k
   unfold xr at hv
   rw[av (by decide +kernel)]at hv
   rcases hv with⟨hn,rfl⟩|⟨ns,a,hn,rfl,hda⟩
   ·refine⟨_,rfl,_,rfl,ib ?_⟩
    have:=k H2 S2
    have e:lN S z=some 4:=by unfold lN;rw[hn]
    rw[e]at this
    show Q (.str (Str.ofString "!text")) H2
    rw[<-tA4];exact this
   ·refine⟨_,rfl,_,rfl,kJ ?_⟩
    have nl9:ns.length<=900:=by
     rw[mj hn]
     have h1:=i9 z 32
     have h2:=jK (Txt.split z (chS 32))
     unfold wds
     omega
    have nne:ns≠ []:=λy=>by
     have h1:=mj hn
     rw[y]at h1
     exact absurd (cf.mp h1.symm) (kB z 32)
    refine⟨_,rfl,_,rfl,sa,_,S,rfl,hS.same S2,λH3 s3=>?_⟩
    have S3:=S2.trans s3
    have en:(!decide (Str.ofString "train" ∈ntw))=false:=by decide +kernel
    rw[en]
    cases q1:S.1 with
    |none=>
     have:=k H3 S3
     rw[show lN S z=some 0 from by unfold lN;rw[hn];dsimp only;rw[q1]]at this
     rw[mQ q1]
     exact⟨_,rfl,_,rfl,ib ⟨_,rfl,this⟩⟩
    |some l=>
     rw[lQ (t:=[]) q1 (.inl rfl)]
     refine⟨_,rfl,_,rfl,kJ ⟨_,rfl,_,rfl,_,rfl,sa,_,_,S,l,rfl,hS.same S3,dS,q1,.tr rfl ns (Da.same s3 hda) nne nl9 (λit H4 s4=>(by have:=k H4 (S3.trans s4);rw[show lN S z=none from by unfold lN;rw[hn];dsimp only;rw[q1];exact av it]at this;exact this)) (λit H4 s4=>(by have:=k H4 (S3.trans s4);rw[show lN S z=some 5 from by unfold lN;rw[hn];dsimp only;rw[q1];exact ak it]at this;rw[<-tA5];exact this))⟩⟩
  ·rw[ak (by decide +kernel),ak (by decide +kernel),ak (by decide +kernel)]at k
   unfold xr at hv
   rw[ak (by decide +kernel),ak (by decide +kernel)]at hv
   cases hn:gB z.cps.toList with
   |none=>
    rw[hn]at hv
    subst hv
    refine⟨_,rfl,_,rfl,ib ?_⟩
    have:=k H2 S2
    have e:rGo (Str.ofString "on") S z=some 4:=by unfold rGo;rw[hn]
    rw[e]at this
    show Q (.str (Str.ofString "!text")) H2
    rw[<-tA4];exact this
   |some en'=>
    rw[hn]at hv
    subst hv
    refine⟨_,rfl,_,rfl,kJ ?_⟩
    refine⟨_,rfl,_,rfl,sa,_,S,rfl,hS.same S2,λH3 s3=>?_⟩
    have S3:=S2.trans s3
    have en:(!decide (Str.ofString "on" ∈ntw))=true:=by decide +kernel
    rw[en]
    cases q1:S.1 with
    |none=>
     have:=k H3 S3
     rw[show rGo (Str.ofString "on") S z=some 0 from by unfold rGo;rw[hn];dsimp only;rw[q1]]at this
     rw[mQ q1]
     exact⟨_,rfl,_,rfl,ib ⟨_,rfl,this⟩⟩
    |some l=>
     cases q2:S.2 with
     |none=>
      have:=k H3 S3
      rw[show rGo (Str.ofString "on") S z=some 5 from by unfold rGo;rw[hn];dsimp only;rw[q1];dsimp only;rw[q2]]at this
      rw[qc q1 q2]
      exact⟨_,rfl,_,rfl,ib ⟨_,rfl,this⟩⟩
     |some t=>
      rw[lQ q1 (.inr q2)]
      refine⟨_,rfl,_,rfl,kJ ⟨_,rfl,_,rfl,_,rfl,sa,_,_,S,l,rfl,hS.same S3,dS,q1,.mv (.inl rfl) en' t q2 rfl (λbb it H4 s4=>(by have:=k H4 (S3.trans s4);rw[show rGo (Str.ofString "on") S z=none from by unfold rGo;rw[hn];dsimp only;rw[q1];dsimp only;rw[q2];dsimp only;rw[it]]at this;exact this)) (λit H4 s4=>(by have:=k H4 (S3.trans s4);rw[show rGo (Str.ofString "on") S z=some 1 from by unfold rGo;rw[hn];dsimp only;rw[q1];dsimp only;rw[q2];dsimp only;rw[it]]at this;rw[<-tA1];exact this))⟩⟩
  ·rw[ak (by decide +kernel),ak (by decide +kernel),ak (by decide +kernel)]at k
   unfold xr at hv
   rw[ak (by decide +kernel),ak (by decide +kernel)]at hv
   cases hn:gB z.cps.toList with
   |none=>
    rw[hn]at hv
    subst hv
    refine⟨_,rfl,_,rfl,ib ?_⟩
    have:=k H2 S2
    have e:rGo (Str.ofString "back") S z=some 4:=by unfold rGo;rw[hn]
    rw[e]at this
    show Q (.str (Str.ofString "!text")) H2
    rw[<-tA4];exact this
   |some en'=>
    rw[hn]at hv
    subst hv
    refine⟨_,rfl,_,rfl,kJ ?_⟩
    refine⟨_,rfl,_,rfl,sa,_,S,rfl,hS.same S2,λH3 s3=>?_⟩
    have S3:=S2.trans s3
    have en:(!decide (Str.ofString "back" ∈ntw))=true:=by decide +kernel
    rw[en]
    cases q1:S.1 with
    |none=>
     have:=k H3 S3
     rw[show rGo (Str.ofString "back") S z=some 0 from by unfold rGo;rw[hn];dsimp only;rw[q1]]at this
     rw[mQ q1]
     exact⟨_,rfl,_,rfl,ib ⟨_,rfl,this⟩⟩
    |some l=>
     cases q2:S.2 with
     |none=>
      have:=k H3 S3
      rw[show rGo (Str.ofString "back") S z=some 5 from by unfold rGo;rw[hn];dsimp only;rw[q1];dsimp only;rw[q2]]at this
      rw[qc q1 q2]
      exact⟨_,rfl,_,rfl,ib ⟨_,rfl,this⟩⟩
     |some t=>
      rw[lQ q1 (.inr q2)]
      refine⟨_,rfl,_,rfl,kJ ⟨_,rfl,_,rfl,_,rfl,sa,_,_,S,l,rfl,hS.same S3,dS,q1,.mv (.inr rfl) en' t q2 rfl (λbb it H4 s4=>(by have:=k H4 (S3.trans s4);rw[show rGo (Str.ofString "back") S z=none from by unfold rGo;rw[hn];dsimp only;rw[q1];dsimp only;rw[q2];dsimp only;rw[it]]at this;exact this)) (λit H4 s4=>(by have:=k H4 (S3.trans s4);rw[show rGo (Str.ofString "back") S z=some 1 from by unfold rGo;rw[hn];dsimp only;rw[q1];dsimp only;rw[q2];dsimp only;rw[it]]at this;rw[<-tA1];exact this))⟩⟩
  ·rw[ak (by decide +kernel),av (.inl rfl)]at k
   unfold xr at hv
   rw[av (by decide +kernel)]at hv
   rcases hv with⟨hn,rfl⟩|⟨ns,a,hn,rfl,hda⟩
   ·refine⟨_,rfl,_,rfl,ib ?_⟩
    have:=k H2 S2
    have e:gS S z=some 4:=by unfold gS;rw[hn]
    rw[e]at this
    show Q (.str (Str.ofString "!text")) H2
    rw[<-tA4];exact this
   ·refine⟨_,rfl,_,rfl,kJ ?_⟩
    have nl9:ns.length<=900:=by
     rw[mj hn]
     have h1:=i9 z 32
     have h2:=jK (Txt.split z (chS 32))
     unfold wds
     omega
    have nne:ns≠ []:=λy=>by
     have h1:=mj hn
     rw[y]at h1
     exact absurd (cf.mp h1.symm) (kB z 32)
    refine⟨_,rfl,_,rfl,sa,_,S,rfl,hS.same S2,λH3 s3=>?_⟩
    have S3:=S2.trans s3
    have en:(!decide (Str.ofString "least" ∈ntw))=true:=by decide +kernel
    rw[en]
    cases q1:S.1 with
    |none=>
     have:=k H3 S3
     rw[show gS S z=some 0 from uN hn q1]at this
     rw[mQ q1]
     exact⟨_,rfl,_,rfl,ib ⟨_,rfl,this⟩⟩
    |some l=>
     cases q2:S.2 with
     |none=>
      have:=k H3 S3
      rw[show gS S z=some 5 from uL hn q1 q2]at this
      rw[qc q1 q2]
      exact⟨_,rfl,_,rfl,ib ⟨_,rfl,this⟩⟩
     |some t=>
      rw[lQ q1 (.inr q2)]
      refine⟨_,rfl,_,rfl,kJ ⟨_,rfl,_,rfl,_,rfl,sa,_,_,S,l,rfl,hS.same S3,dS,q1,.go (.inl rfl) ns t q2 (Da.same s3 hda) nne nl9 (λit H4 s4=>(by have:=k H4 (S3.trans s4);rw[show gS S z=none from uK hn q1 q2 it]at this;exact this)) (λit H4 s4=>(by have:=k H4 (S3.trans s4);rw[show gS S z=some 5 from uM hn q1 q2 it]at this;rw[<-tA5];exact this))⟩⟩
  ·rw[ak (by decide +kernel),av (.inr rfl)]at k
   unfold xr at hv
   rw[av (by decide +kernel)]at hv
   rcases hv with⟨hn,rfl⟩|⟨ns,a,hn,rfl,hda⟩
   ·refine⟨_,rfl,_,rfl,ib ?_⟩
    have:=k H2 S2
    have e:gS S z=some 4:=by unfold gS;rw[hn]
    rw[e]at this
    show Q (.str (Str.ofString "!text")) H2
    rw[<-tA4];exact this
   ·refine⟨_,rfl,_,rfl,kJ ?_⟩
    have nl9:ns.length<=900:=by
     rw[mj hn]
     have h1:=i9 z 32
     have h2:=jK (Txt.split z (chS 32))
     unfold wds
     omega
    have nne:ns≠ []:=λy=>by
     have h1:=mj hn
     rw[y]at h1
     exact absurd (cf.mp h1.symm) (kB z 32)
    refine⟨_,rfl,_,rfl,sa,_,S,rfl,hS.same S2,λH3 s3=>?_⟩
    have S3:=S2.trans s3
    have en:(!decide (Str.ofString "fewest" ∈ntw))=true:=by decide +kernel
    rw[en]
    cases q1:S.1 with
    |none=>
     have:=k H3 S3
     rw[show gS S z=some 0 from uN hn q1]at this
     rw[mQ q1]
     exact⟨_,rfl,_,rfl,ib ⟨_,rfl,this⟩⟩
    |some l=>
     cases q2:S.2 with
     |none=>
      have:=k H3 S3
      rw[show gS S z=some 5 from uL hn q1 q2]at this
      rw[qc q1 q2]
      exact⟨_,rfl,_,rfl,ib ⟨_,rfl,this⟩⟩
     |some t=>
      rw[lQ q1 (.inr q2)]
      refine⟨_,rfl,_,rfl,kJ ⟨_,rfl,_,rfl,_,rfl,sa,_,_,S,l,rfl,hS.same S3,dS,q1,.go (.inr rfl) ns t q2 (Da.same s3 hda) nne nl9 (λit H4 s4=>(by have:=k H4 (S3.trans s4);rw[show gS S z=none from uK hn q1 q2 it]at this;exact this)) (λit H4 s4=>(by have:=k H4 (S3.trans s4);rw[show gS S z=some 5 from uM hn q1 q2 it]at this;rw[<-tA5];exact this))⟩⟩
  ·rw[ak (by decide +kernel),ak (by decide +kernel),av rfl]at k
   unfold xr at hv
   rw[ak (by decide +kernel),av rfl]at hv
   cases hn:g9 z.cps.toList with
   |none=>
    rw[hn]at hv
    subst hv
    refine⟨_,rfl,_,rfl,ib ?_⟩
    have:=k H2 S2
    have e:km S z=some 4:=by unfold km;rw[hn]
    rw[e]at this
    show Q (.str (Str.ofString "!text")) H2
    rw[<-tA4];exact this
   |some nn=>
    rw[hn]at hv
    subst hv
    refine⟨_,rfl,_,rfl,kJ ?_⟩
    refine⟨_,rfl,_,rfl,sa,_,S,rfl,hS.same S2,λH3 s3=>?_⟩
    have S3:=S2.trans s3
    have en:(!decide (Str.ofString "sides" ∈ntw))=false:=by decide +kernel
    rw[en]
    cases q1:S.1 with
    |none=>
     have:=k H3 S3
     rw[show km S z=some 0 from by unfold km;rw[hn];dsimp only;rw[q1]]at this
     rw[mQ q1]
     exact⟨_,rfl,_,rfl,ib ⟨_,rfl,this⟩⟩
    |some l=>
     rw[lQ (t:=[]) q1 (.inl rfl)]
     refine⟨_,rfl,_,rfl,kJ ⟨_,rfl,_,rfl,_,rfl,sa,_,_,S,l,rfl,hS.same S3,dS,q1,.si rfl nn rfl (λit H4 s4=>(by have:=k H4 (S3.trans s4);rw[show km S z=none from by unfold km;rw[hn];dsimp only;rw[q1];exact av it]at this;exact this)) (λit H4 s4=>(by have:=k H4 (S3.trans s4);rw[show km S z=some 2 from by unfold km;rw[hn];dsimp only;rw[q1];exact ak it]at this;rw[<-tA2];exact this))⟩⟩
end
noncomputable def shW:Expr->Bool
 |.BinOp (.BinOp (.Constant (.str y) _ _) .Add (.BinOp (.Constant (.str x) _ _) .Mult (.Constant (.int n) _ _) _) _) .Add (.Constant (.str z) _ _) _=>decide (y.length<=20)&&decide (x.length<=1)&&decide (0<=n)&&decide (n<=50)&&decide (z.length<=20)
 |.BinOp (.Constant (.str y) _ _) .Add (.BinOp (.Constant (.str x) _ _) .Mult (.Constant (.int n) _ _) _) _=>decide (y.length<=20)&&decide (x.length<=1)&&decide (0<=n)&&decide (n<=50)
 |.Constant (.str x) _ _=>decide (x.length<=100)
 |_=>false
section
variable {X:Cx}
theorem IP {e:Expr}(h:shW e=true):PE X e (λ_ H Q=>∀ x:Str,x.length<=100->Q (.str x) H):=by
 unfold shW at h
 split at h
 ·rename_i y _ _ x _ _ n _ _ _ _ z _ _ _
  simp only[bN,cq]at h
  obtain⟨⟨⟨⟨h1,h2⟩,h3⟩,h4⟩,h5⟩:=h
  intro pins s σ H Q I hq
  refine eY fV (eY fV eU (eY yV eU eR)) eU pins s σ H Q I ⟨x,n,rfl,rfl,by omega,h3,by omega,λr hr=>?_⟩
  have hl:x.length*n.toNat<=1*50:=Nat.mul_le_mul h2 (by omega)
  refine⟨y,r,rfl,rfl,?_,y++r,z,rfl,rfl,?_,hq _ ?_⟩
  ·rw[aE];omega
  ·rw[aE,ag];omega
  ·rw[ag,ag];omega
 ·rename_i y _ _ x _ _ n _ _ _ _
  simp only[bN,cq]at h
  obtain⟨⟨⟨h1,h2⟩,h3⟩,h4⟩:=h
  intro pins s σ H Q I hq
  refine eY fV eU (eY yV eU eR) pins s σ H Q I ⟨x,n,rfl,rfl,by omega,h3,by omega,λr hr=>?_⟩
  have hl:x.length*n.toNat<=1*50:=Nat.mul_le_mul h2 (by omega)
  refine⟨y,r,rfl,rfl,?_,hq _ ?_⟩
  ·rw[aE];omega
  ·rw[ag];omega
 ·rename_i x k p
  intro pins s σ H Q I hq
  exact eU pins s σ H Q I (hq x (cc h))
 ·cases h
theorem ET {e:Expr}{es:List Expr}{env:Env}(h:shW e=true):starEach (e::es) env=(false,eval e env)::starEach es env:=by
 unfold shW at h
 split at h
 ·rfl
 ·rfl
 ·rfl
 ·cases h
theorem nJ:∀ {es:List Expr},es.all shW=true->PA X es (λ_ H Q=>∀ ws:List Str,ws.length=es.length->(∀ x∈ws,x.length<=100)->Q (ws.map V.str) H)
 |[],_=>λpos pins s σ H Q I h=>eM pos pins s σ H Q I (h [] rfl λx hx=>(nomatch hx))
 |e::es,h=>by
  rw[eE,bN]at h
  intro pos pins s σ H Q I hq
  refine eL (IP h.1) (nJ h.2) (ET h.1) pos pins s σ H Q I λx hx ws hl hw=>hq (x::ws) (by rw[aH,hl,aH]) λy hy=>?_
  rcases ay.mp hy with rfl |hy
  ·exact hx
  ·exact hw y hy
end
structure OJ (H G:Hp)(q:Addr)(ws:List Str)(m:Nat):Prop where
 s:eW H G
 q:G q=some (.lst (ws.map V.str))
 o:0<ws.length
 m:ws.length<=m
 b:∀ x∈ws,x.length<=100
theorem OJ.step {G:Hp}{q q2 q3:Addr}{ws o:List Str}{m k:Nat}(h:OJ H G q ws m)(n2:G q2=none)(n3:upd G q2 (.lst (o.map V.str)) q3=none)(l:o.length=k)(b:∀ x∈o,x.length<=100):
  OJ H (upd (upd G q2 (.lst (o.map V.str))) q3 (.lst (ws.map V.str++o.map V.str))) q3 (ws++o) (m+k):=by
 have h1:=h.o
 have h2:=h.m
 refine⟨h.s.trans ((eN n2).trans (eN n3)),by rw[eO,aC],by rw[aG];omega,by rw[aG];omega,λx hx=>?_⟩
 rcases aL.mp hx with hx |hx
 ·exact h.b x hx
 ·exact b x hx
noncomputable def EW:Sp:=λvs H Q _=>∃ n:Int,vs = [.int n]/\∀ (y:Str) H',eW H H'->y.length<=100->Q (.str y) H'
theorem hV {n:Nat}(h:n<=500000):n<=sizeLine:=aT h (by rw[aE];decide)
variable {i:Int}
theorem GG {ws:List Str}(h0:0<=i)(h1:i<(ws.length:Int)):∃ x,ws[i.toNat]? = some x/\x∈ws/\atI (ws.map V.str) i=some (.str x):=by
 have hl:i.toNat<ws.length:=by omega
 refine⟨ws[i.toNat],by simp[hl],eJ hl,?_⟩
 refine JO h0 ?_
 rw[ah]
 simp[hl]
noncomputable abbrev ly:Stmt:=top 108
theorem gw:fh ["_law_number_here","_law_odd"] ["_law_number_here"] (eT ly):=⟨rfl,rfl,rfl,by decide +kernel,rfl,by decide +kernel,by decide +kernel⟩
section
variable {P:Program}{w:World}{K:PySem.W.Frag}{mg:Str->Option Value}{base:Heap}{f:Addr}{fd:FuncData}
theorem vJ (F:Fn K mg "_law_odd_row" ly ["_law_number_here"] f fd)(B:Bm mg):eX P w K mg base CX0 1 f fd ["_law_number_here"] EW:=by
 refine F.F.ok gw (λvs H Q E h=>?_) (λcdv A outer s H vs Q E hr h=>?_)
 ·obtain⟨n,rfl,_⟩:=h;rfl
 ·obtain⟨n,rfl,k⟩:=h
  refine⟨_,(@eP _ _ _ _ _ (@fk _ _ (1) _ _ _ _ gw.nd rfl (Or.inl rfl) (@fN _ _ _ _ (@nJ _ _ (by decide +kernel))) (by rfl) (by first |exact .inl rfl |exact .inr rfl |assumption))
 (@eP _ _ _ _ _ (@fk _ _ (1) _ _ _ _ gw.nd rfl (Or.inl rfl) (@eY _ _ _ _ _ _ _ _ (@iP _) (@pv _ 1 _ _ (by rfl) (by first |exact Or.inl rfl |exact Or.inr (Or.inl rfl)|exact Or.inr (Or.inr rfl)) (by decide) (by decide)) (@fN _ _ _ _ (@nJ _ _ (by decide +kernel)))) (by rfl) (by first |exact .inl rfl |exact .inr rfl |assumption))
 (@eP _ _ _ _ _ (@fk _ _ (1) _ _ _ _ gw.nd rfl (Or.inl rfl) (@eY _ _ _ _ _ _ _ _ (@iP _) (@pv _ 1 _ _ (by rfl) (by first |exact Or.inl rfl |exact Or.inr (Or.inl rfl)|exact Or.inr (Or.inr rfl)) (by decide) (by decide)) (@fN _ _ _ _ (@nJ _ _ (by decide +kernel)))) (by rfl) (by first |exact .inl rfl |exact .inr rfl |assumption))
 (@eP _ _ _ _ _ (@fk _ _ (1) _ _ _ _ gw.nd rfl (Or.inl rfl) (@eY _ _ _ _ _ _ _ _ (@iP _) (@pv _ 1 _ _ (by rfl) (by first |exact Or.inl rfl |exact Or.inr (Or.inl rfl)|exact Or.inr (Or.inr rfl)) (by decide) (by decide)) (@fN _ _ _ _ (@nJ _ _ (by decide +kernel)))) (by rfl) (by first |exact .inl rfl |exact .inr rfl |assumption))
 (@eP _ _ _ _ _ (@fk _ _ (1) _ _ _ _ gw.nd rfl (Or.inl rfl) (@eY _ _ _ _ _ _ _ _ (@iP _) (@pv _ 1 _ _ (by rfl) (by first |exact Or.inl rfl |exact Or.inr (Or.inl rfl)|exact Or.inr (Or.inr rfl)) (by decide) (by decide)) (@fN _ _ _ _ (@nJ _ _ (by decide +kernel)))) (by rfl) (by first |exact .inl rfl |exact .inr rfl |assumption))
 (@eP _ _ _ _ _ (@fk _ _ (1) _ _ _ _ gw.nd rfl (Or.inl rfl) (@eY _ _ _ _ _ _ _ _ (@iP _) (@pv _ 1 _ _ (by rfl) (by first |exact Or.inl rfl |exact Or.inr (Or.inl rfl)|exact Or.inr (Or.inr rfl)) (by decide) (by decide)) (@fN _ _ _ _ (@nJ _ _ (by decide +kernel)))) (by rfl) (by first |exact .inl rfl |exact .inr rfl |assumption))
 (@eP _ _ _ _ _ (@fk _ _ (1) _ _ _ _ gw.nd rfl (Or.inl rfl) (@eY _ _ _ _ _ _ _ _ (@iP _) (@pv _ 1 _ _ (by rfl) (by first |exact Or.inl rfl |exact Or.inr (Or.inl rfl)|exact Or.inr (Or.inr rfl)) (by decide) (by decide)) (@fN _ _ _ _ (@nJ _ _ (by decide +kernel)))) (by rfl) (by first |exact .inl rfl |exact .inr rfl |assumption))
 (@eP _ _ _ _ _ (@fk _ _ (1) _ _ _ _ gw.nd rfl (Or.inl rfl) (@eY _ _ _ _ _ _ _ _ (@iP _) (@pv _ 1 _ _ (by rfl) (by first |exact Or.inl rfl |exact Or.inr (Or.inl rfl)|exact Or.inr (Or.inr rfl)) (by decide) (by decide)) (@fN _ _ _ _ (@nJ _ _ (by decide +kernel)))) (by rfl) (by first |exact .inl rfl |exact .inr rfl |assumption))
 (@eP _ _ _ _ _ (@fk _ _ (1) _ _ _ _ gw.nd rfl (Or.inl rfl) (@eY _ _ _ _ _ _ _ _ (@iP _) (@pv _ 1 _ _ (by rfl) (by first |exact Or.inl rfl |exact Or.inr (Or.inl rfl)|exact Or.inr (Or.inr rfl)) (by decide) (by decide)) (@fN _ _ _ _ (@nJ _ _ (by decide +kernel)))) (by rfl) (by first |exact .inl rfl |exact .inr rfl |assumption))
 (@eQ _ _ _ (@fb _ _ _ _ (@fU _ _ _ _ _ _ _ (@fM _) (@pv _ 1 _ _ (by rfl) (by first |exact Or.inl rfl |exact Or.inr (Or.inl rfl)|exact Or.inr (Or.inr rfl)) (by decide) (by decide)) (@eY _ _ _ _ _ _ _ _ (@gk _) (@pv _ 0 _ _ (by rfl) (by first |exact Or.inl rfl |exact Or.inr (Or.inl rfl)|exact Or.inr (Or.inr rfl)) (by decide) (by decide)) (@fA _ _ _ _ _ _ _ _ _ (@fI _) rfl B.len bz (@eL _ _ _ _ _ (@pv _ 1 _ _ (by rfl) (by first |exact Or.inl rfl |exact Or.inr (Or.inl rfl)|exact Or.inr (Or.inr rfl)) (by decide) (by decide)) (@eM _) (by rfl)) (by decide) (by decide) (by rfl) (by rfl))) (λ_ _=>rfl))))))))))))),?_⟩
  refine λo1 l1 b1=>⟨hV (by rw[aa,l1];show 13<=_;decide),λq1 nq1=>?_⟩
  have J:OJ H (upd H q1 (.lst (o1.map V.str))) q1 o1 20:=⟨eN nq1,eO,by rw[l1];show 0<13;decide,by rw[l1];show 13<=20;decide,b1⟩
  generalize upd H q1 _=H1 at J ⊢
  clear nq1 l1 b1
  refine⟨_,rfl,λo2 l2 b2=>⟨hV (by rw[aa,l2];show 9<=_;decide),λq2 nq2=>⟨q1,q2,o1.map V.str,o2.map V.str,rfl,rfl,(eN nq2) _ _ J.q,eO,hV (by have:=J.m;rw[aa,aa,l2];show _+9<=_;omega),λq3 nq3=>?_⟩⟩⟩
  have J:=J.step nq2 nq3 (l2.trans (show _=9 from rfl)) b2
  generalize upd (upd _ q2 _) q3 _=G0 at J ⊢
  generalize o1++o2=w0 at J ⊢
  clear nq2 nq3 l2 b2
  generalize q3=p0 at J ⊢
  refine⟨_,rfl,λo2 l2 b2=>⟨hV (by rw[aa,l2];show 8<=_;decide),λq2 nq2=>⟨p0,q2,w0.map V.str,o2.map V.str,rfl,rfl,(eN nq2) _ _ J.q,eO,hV (by have:=J.m;rw[aa,aa,l2];show _+8<=_;omega),λq3 nq3=>?_⟩⟩⟩
  have J:=J.step nq2 nq3 (l2.trans (show _=8 from rfl)) b2
  generalize upd (upd _ q2 _) q3 _=G1 at J ⊢
  generalize w0++o2=w1 at J ⊢
  clear nq2 nq3 l2 b2
  generalize q3=p1 at J ⊢
  refine⟨_,rfl,λo2 l2 b2=>⟨hV (by rw[aa,l2];show 5<=_;decide),λq2 nq2=>⟨p1,q2,w1.map V.str,o2.map V.str,rfl,rfl,(eN nq2) _ _ J.q,eO,hV (by have:=J.m;rw[aa,aa,l2];show _+5<=_;omega),λq3 nq3=>?_⟩⟩⟩
  have J:=J.step nq2 nq3 (l2.trans (show _=5 from rfl)) b2
  generalize upd (upd _ q2 _) q3 _=G2 at J ⊢
  generalize w1++o2=w2 at J ⊢
  clear nq2 nq3 l2 b2
  generalize q3=p2 at J ⊢
  refine⟨_,rfl,λo2 l2 b2=>⟨hV (by rw[aa,l2];show 4<=_;decide),λq2 nq2=>⟨p2,q2,w2.map V.str,o2.map V.str,rfl,rfl,(eN nq2) _ _ J.q,eO,hV (by have:=J.m;rw[aa,aa,l2];show _+4<=_;omega),λq3 nq3=>?_⟩⟩⟩
  have J:=J.step nq2 nq3 (l2.trans (show _=4 from rfl)) b2
  generalize upd (upd _ q2 _) q3 _=G3 at J ⊢
  generalize w2++o2=w3 at J ⊢
  clear nq2 nq3 l2 b2
  generalize q3=p3 at J ⊢
  refine⟨_,rfl,λo2 l2 b2=>⟨hV (by rw[aa,l2];show 7<=_;decide),λq2 nq2=>⟨p3,q2,w3.map V.str,o2.map V.str,rfl,rfl,(eN nq2) _ _ J.q,eO,hV (by have:=J.m;rw[aa,aa,l2];show _+7<=_;omega),λq3 nq3=>?_⟩⟩⟩
  have J:=J.step nq2 nq3 (l2.trans (show _=7 from rfl)) b2
  generalize upd (upd _ q2 _) q3 _=G4 at J ⊢
  generalize w3++o2=w4 at J ⊢
  clear nq2 nq3 l2 b2
  generalize q3=p4 at J ⊢
  refine⟨_,rfl,λo2 l2 b2=>⟨hV (by rw[aa,l2];show 4<=_;decide),λq2 nq2=>⟨p4,q2,w4.map V.str,o2.map V.str,rfl,rfl,(eN nq2) _ _ J.q,eO,hV (by have:=J.m;rw[aa,aa,l2];show _+4<=_;omega),λq3 nq3=>?_⟩⟩⟩
  have J:=J.step nq2 nq3 (l2.trans (show _=4 from rfl)) b2
  generalize upd (upd _ q2 _) q3 _=G5 at J ⊢
  generalize w4++o2=w5 at J ⊢
  clear nq2 nq3 l2 b2
  generalize q3=p5 at J ⊢
  refine⟨_,rfl,λo2 l2 b2=>⟨hV (by rw[aa,l2];show 4<=_;decide),λq2 nq2=>⟨p5,q2,w5.map V.str,o2.map V.str,rfl,rfl,(eN nq2) _ _ J.q,eO,hV (by have:=J.m;rw[aa,aa,l2];show _+4<=_;omega),λq3 nq3=>?_⟩⟩⟩
  have J:=J.step nq2 nq3 (l2.trans (show _=4 from rfl)) b2
  generalize upd (upd _ q2 _) q3 _=G6 at J ⊢
  generalize w5++o2=w6 at J ⊢
  clear nq2 nq3 l2 b2
  generalize q3=p6 at J ⊢
  refine⟨_,rfl,λo2 l2 b2=>⟨hV (by rw[aa,l2];show 2<=_;decide),λq2 nq2=>⟨p6,q2,w6.map V.str,o2.map V.str,rfl,rfl,(eN nq2) _ _ J.q,eO,hV (by have:=J.m;rw[aa,aa,l2];show _+2<=_;omega),λq3 nq3=>?_⟩⟩⟩
  have J:=J.step nq2 nq3 (l2.trans (show _=2 from rfl)) b2
  generalize upd (upd _ q2 _) q3 _=G7 at J ⊢
  generalize w6++o2=w7 at J ⊢
  clear nq2 nq3 l2 b2
  generalize q3=p7 at J ⊢
  have i0:0<=n%((w7.map V.str).length:Int):=bK _ (by have:=J.o;rw[aa];omega)
  have i1:n%((w7.map V.str).length:Int)<((w7.map V.str).length:Int):=bB _ (by have:=J.o;rw[aa];omega)
  obtain⟨wd,_,hwd,hat⟩:=GG (ws:=w7) (i:=n%((w7.map V.str).length:Int)) i0 (by rw[aa]at i1 ⊢;exact i1)
  exact⟨_,rfl,_,rfl,_,rfl,p7,_,rfl,.inl (SqL.of J.q),_,_,rfl,rfl,(by show(0:Int)<((w7.map V.str).length:Int);have:=J.o;rw[aa];omega),p7,_,_,_,rfl,rfl,SqL.of J.q,hat,k _ _ J.s (J.b _ hwd)⟩
end
noncomputable def E2 (K:PySem.W.Frag):Sp:=λvs H Q _=>∃ (s:Addr) (n:Int) (S:DS),vs = [.ref s,.int n]/\StA K H s S/\DOk S/\(∀ l,S.1=some l->l.2.length<=12)/\0<=n/\∀ (y:Str) H',eW H H'->y.length<=250->Q (.str y) H'
noncomputable abbrev lA:Stmt:=top 109
theorem jy:fh ["_law_state","_law_number_here","_law_end_here","_law_line_here","_law_train_here","_law_way"] ["_law_state","_law_number_here"] (eT lA):=⟨rfl,rfl,rfl,by decide +kernel,rfl,by decide +kernel,by decide +kernel⟩
theorem GO (h:small l)(n:l.2.length<=13):(txL l).length<=200:=by
 have:=sj λw hw=>(uV h w hw).2
 have e:(txR l).length=l.2.length+1:=by simp[txR]
 unfold txL
 omega
theorem pk (ws:List Str)(b:∀ x∈ws,x.length<=10)(h0:0<=i)(h1:i<(ws.length:Int)):∃ x:Str,x.length<=10/\atI (ws.map V.str) i=some (.str x):=by
 obtain⟨x,_,hx,h⟩:=GG h0 h1
 exact⟨x,b x hx,h⟩
section
variable {P:Program}{w:World}{K:PySem.W.Frag}{mg:Str->Option Value}{base:Heap}{f:Addr}{fd:FuncData}
theorem vL (F:Fn K mg "_law_any_row" lA ["_law_state","_law_number_here"] f fd)(B:Bm mg)
  (fv:Fn K mg "_law_end_text" iO ["_law_end_here"] f1 fd1) (gQ:eX P w K mg base CX0 1 f1 fd1 ["_law_end_here"] rL)
  (gR:Fn K mg "_law_train" jA ["_law_line_here","_law_number_here","_law_most"] f2 fd2) (kv:eX P w K mg base CX0 2 f2 fd2 ["_law_line_here","_law_number_here","_law_most"] (uX K))
  (fJ:Fn K mg "_law_train_text" hX ["_law_train_here"] f3 fd3) (gM:eX P w K mg base CX0 2 f3 fd3 ["_law_train_here"] (nX K))
  (gf:Fn K mg "_law_line_text" i7 ["_law_line_here"] f4 fd4) (iw:eX P w K mg base CX0 2 f4 fd4 ["_law_line_here"] (uZ K)):
  eX P w K mg base CX0 3 f fd ["_law_state","_law_number_here"] (E2 K):=by
 refine F.F.ok jy (λvs H Q E h=>?_) (λcdv A outer s H vs Q E hr h=>?_)
 ·obtain⟨s,n,S,rfl,_⟩:=h;rfl
 ·obtain⟨sa,n,S,rfl,⟨v,u,hd,hv,hu⟩,dS,dN,n0,k⟩:=h
  refine⟨_,(@eP _ _ _ _ _ (@fk _ _ (2) _ _ _ _ jy.nd rfl (Or.inl rfl) (@eS _ _ _ _ _ _ _ _ _ _ _ _ _ _ _ _ gQ (hr.mono (by decide)) rfl fv.m fv.F.kp fv.b .nil (@fo _) (@eL _ _ _ _ _ (@eY _ _ _ _ _ _ _ _ (@gk _) (@eY _ _ _ _ _ _ _ _ (@gg _) (@pv _ 1 _ _ (by rfl) (by first |exact Or.inl rfl |exact Or.inr (Or.inl rfl)|exact Or.inr (Or.inr rfl)) (by decide) (by decide)) (@eR _ _ _ _)) (@eR _ _ _ _)) (@eM _) (by rfl)) (by decide) (by rfl) (by rfl)) (by rfl) (by first |exact .inl rfl |exact .inr rfl |assumption)) (@eP _ _ _ _ _ (@fk _ _ (3) _ _ _ _ jy.nd rfl (Or.inl rfl) (@fU _ _ _ _ _ _ _ (@fM _) (@fN _ _ _ _ (@eL _ _ _ _ _ (@iq _ _ _ _ _ (@eL _ _ _ _ _ (@eR _ _ _ _) (@eL _ _ _ _ _ (@fN _ _ _ _ (@eL _ _ _ _ _ (@iq _ _ _ _ _ (@eL _ _ _ _ _ (@eR _ _ _ _) (@eL _ _ _ _ _ (@eR _ _ _ _) (@eM _) (by rfl)) (by rfl))) (@eM _) (by rfl))) (@eM _) (by rfl)) (by rfl))) (@eL _ _ _ _ _ (@fU _ _ _ _ _ _ _ (@fM _) (@pv _ 0 _ _ (by rfl) (by first |exact Or.inl rfl |exact Or.inr (Or.inl rfl)|exact Or.inr (Or.inr rfl)) (by decide) (by decide)) (@eR _ _ _ _) (λ_ _=>rfl)) (@eM _) (by rfl)) (by rfl))) (@hZ _ _ _ _ _ _ _ _ _ (@oy _) rfl B.int boot_int (@eL _ _ _ _ _ (Bt (@rT _ _ _ _ _ (@fU _ _ _ _ _ _ _ (@fM _) (@pv _ 0 _ _ (by rfl) (by first |exact Or.inl rfl |exact Or.inr (Or.inl rfl)|exact Or.inr (Or.inr rfl)) (by decide) (by decide)) (@eR _ _ _ _) (λ_ _=>rfl)))) (@eM _) (by rfl)) (by decide) (by decide) (by rfl) (by rfl)) (λ_ _=>rfl)) (by rfl) (by first |exact .inl rfl |exact .inr rfl |assumption)) (@eP _ _ _ _ _ (@fk _ _ (4) _ _ _ _ jy.nd rfl (Or.inl rfl) (@eS _ _ _ _ _ _ _ _ _ _ _ _ _ _ _ _ kv (hr.mono (by decide)) rfl gR.m gR.F.kp gR.b .nil (@fo _) (@eL _ _ _ _ _ (@pv _ 3 _ _ (by rfl) (by first |exact Or.inl rfl |exact Or.inr (Or.inl rfl)|exact Or.inr (Or.inr rfl)) (by decide) (by decide)) (@eL _ _ _ _ _ (@eY _ _ _ _ _ _ _ _ (@gg _) (@pv _ 1 _ _ (by rfl) (by first |exact Or.inl rfl |exact Or.inr (Or.inl rfl)|exact Or.inr (Or.inr rfl)) (by decide) (by decide)) (@eR _ _ _ _)) (@eL _ _ _ _ _ (@eR _ _ _ _) (@eM _) (by rfl)) (by rfl)) (by rfl)) (by decide) (by rfl) (by rfl)) (by rfl) (by first |exact .inl rfl |exact .inr rfl |assumption)) (@eP _ _ _ _ _ (@fk _ _ (5) _ _ _ _ jy.nd rfl (Or.inl rfl) (@eY _ _ _ _ _ _ _ _ (@gk _) (@pv _ 1 _ _ (by rfl) (by first |exact Or.inl rfl |exact Or.inr (Or.inl rfl)|exact Or.inr (Or.inr rfl)) (by decide) (by decide)) (@eR _ _ _ _)) (by rfl) (by first |exact .inl rfl |exact .inr rfl |assumption)) (@eP _ _ _ _ _ (@fF _ _ _ _ _ _ _ _ (fC (@pL _ _ _ _ _ (@pv _ 5 _ _ (by rfl) (by first |exact Or.inl rfl |exact Or.inr (Or.inl rfl)|exact Or.inr (Or.inr rfl)) (by decide) (by decide)) (@eR _ _ _ _))) (@eQ _ _ _ (@fb _ _ _ _ (@eY _ _ _ _ _ _ _ _ (@fV _) (@fU _ _ _ _ _ _ _ (@fM _) (@fN _ _ _ _ (@eL _ _ _ _ _ (@eU _ _ _ _) (@eL _ _ _ _ _ (@eU _ _ _ _) (@eM _) (by rfl)) (by rfl))) (@eY _ _ _ _ _ _ _ _ (@gk _) (@pv _ 5 _ _ (by rfl) (by first |exact Or.inl rfl |exact Or.inr (Or.inl rfl)|exact Or.inr (Or.inr rfl)) (by decide) (by decide)) (@eR _ _ _ _)) (λ_ _=>rfl)) (@pv _ 2 _ _ (by rfl) (by first |exact Or.inl rfl |exact Or.inr (Or.inl rfl)|exact Or.inr (Or.inr rfl)) (by decide) (by decide))))) (@fc _)) (@eP _ _ _ _ _ (@fF _ _ _ _ _ _ _ _ (fC (@pL _ _ _ _ _ (@pv _ 5 _ _ (by rfl) (by first |exact Or.inl rfl |exact Or.inr (Or.inl rfl)|exact Or.inr (Or.inr rfl)) (by decide) (by decide)) (@eR _ _ _ _))) (@eQ _ _ _ (@fb _ _ _ _ (@eY _ _ _ _ _ _ _ _ (@fV _) (@fU _ _ _ _ _ _ _ (@fM _) (@fN _ _ _ _ (@eL _ _ _ _ _ (@eU _ _ _ _) (@eL _ _ _ _ _ (@eU _ _ _ _) (@eL _ _ _ _ _ (@eU _ _ _ _) (@eM _) (by rfl)) (by rfl)) (by rfl))) (@eY _ _ _ _ _ _ _ _ (@sR _) (@pv _ 5 _ _ (by rfl) (by first |exact Or.inl rfl |exact Or.inr (Or.inl rfl)|exact Or.inr (Or.inr rfl)) (by decide) (by decide)) (@eR _ _ _ _)) (λ_ _=>rfl)) (@eS _ _ _ _ _ _ _ _ _ _ _ _ _ _ _ _ gM (hr.mono (by decide)) rfl fJ.m fJ.F.kp fJ.b .nil (@fo _) (@eL _ _ _ _ _ (@pv _ 4 _ _ (by rfl) (by first |exact Or.inl rfl |exact Or.inr (Or.inl rfl)|exact Or.inr (Or.inr rfl)) (by decide) (by decide)) (@eM _) (by rfl)) (by decide) (by rfl) (by rfl))))) (@fc _)) (@eP _ _ _ _ _ (@fF _ _ _ _ _ _ _ _ (fC (@pL _ _ _ _ _ (@pv _ 5 _ _ (by rfl) (by first |exact Or.inl rfl |exact Or.inr (Or.inl rfl)|exact Or.inr (Or.inr rfl)) (by decide) (by decide)) (@eR _ _ _ _))) (@eQ _ _ _ (@fb _ _ _ _ (@eY _ _ _ _ _ _ _ _ (@fV _) (@eY _ _ _ _ _ _ _ _ (@fV _) (@eY _ _ _ _ _ _ _ _ (@fV _) (@fU _ _ _ _ _ _ _ (@fM _) (@fN _ _ _ _ (@eL _ _ _ _ _ (@eU _ _ _ _) (@eL _ _ _ _ _ (@eU _ _ _ _) (@eL _ _ _ _ _ (@eU _ _ _ _) (@eM _) (by rfl)) (by rfl)) (by rfl))) (@eY _ _ _ _ _ _ _ _ (@sR _) (@pv _ 5 _ _ (by rfl) (by first |exact Or.inl rfl |exact Or.inr (Or.inl rfl)|exact Or.inr (Or.inr rfl)) (by decide) (by decide)) (@eR _ _ _ _)) (λ_ _=>rfl)) (@eS _ _ _ _ _ _ _ _ _ _ _ _ _ _ _ _ gM (hr.mono (by decide)) rfl fJ.m fJ.F.kp fJ.b .nil (@fo _) (@eL _ _ _ _ _ (@pv _ 4 _ _ (by rfl) (by first |exact Or.inl rfl |exact Or.inr (Or.inl rfl)|exact Or.inr (Or.inr rfl)) (by decide) (by decide)) (@eM _) (by rfl)) (by decide) (by rfl) (by rfl))) (@eU _ _ _ _)) (@pv _ 2 _ _ (by rfl) (by first |exact Or.inl rfl |exact Or.inr (Or.inl rfl)|exact Or.inr (Or.inr rfl)) (by decide) (by decide))))) (@fc _)) (@eP _ _ _ _ _ (@fF _ _ _ _ _ _ _ _ (fC (@mO _ _ _ _ _ (@pv _ 5 _ _ (by rfl) (by first |exact Or.inl rfl |exact Or.inr (Or.inl rfl)|exact Or.inr (Or.inr rfl)) (by decide) (by decide)) (@eR _ _ _ _))) (@eQ _ _ _ (@fb _ _ _ _ (@eY _ _ _ _ _ _ _ _ (@fV _) (@eU _ _ _ _) (@hZ _ _ _ _ _ _ _ _ _ (@mq _) rfl B.str boot_str (@eL _ _ _ _ _ (@eY _ _ _ _ _ _ _ _ (@gk _) (@eY _ _ _ _ _ _ _ _ (@gg _) (@pv _ 1 _ _ (by rfl) (by first |exact Or.inl rfl |exact Or.inr (Or.inl rfl)|exact Or.inr (Or.inr rfl)) (by decide) (by decide)) (@eR _ _ _ _)) (@eR _ _ _ _)) (@eM _) (by rfl)) (by decide) (by decide) (by rfl) (by rfl))))) (@fc _)) (@eP _ _ _ _ _ (@fF _ _ _ _ _ _ _ _ (fC (@mO _ _ _ _ _ (@pv _ 5 _ _ (by rfl) (by first |exact Or.inl rfl |exact Or.inr (Or.inl rfl)|exact Or.inr (Or.inr rfl)) (by decide) (by decide)) (@eR _ _ _ _))) (@eQ _ _ _ (@fb _ _ _ _ (@eY _ _ _ _ _ _ _ _ (@fV _) (@eU _ _ _ _) (@eS _ _ _ _ _ _ _ _ _ _ _ _ _ _ _ _ iw (hr.mono (by decide)) rfl gf.m gf.F.kp gf.b .nil (@fo _) (@eL _ _ _ _ _ (@iq _ _ _ _ _ (@eL _ _ _ _ _ (@fU _ _ _ _ _ _ _ (@lR _) (@pv _ 3 _ _ (by rfl) (by first |exact Or.inl rfl |exact Or.inr (Or.inl rfl)|exact Or.inr (Or.inr rfl)) (by decide) (by decide)) (@eR _ _ _ _) (λ_ _=>rfl)) (@eL _ _ _ _ _ (@eY _ _ _ _ _ _ _ _ (@Hf _) (@fU _ _ _ _ _ _ _ (@lR _) (@pv _ 3 _ _ (by rfl) (by first |exact Or.inl rfl |exact Or.inr (Or.inl rfl)|exact Or.inr (Or.inr rfl)) (by decide) (by decide)) (@eR _ _ _ _) (λ_ _=>rfl)) (@fN _ _ _ _ (@eL _ _ _ _ _ (@iq _ _ _ _ _ (@eL _ _ _ _ _ (@eY _ _ _ _ _ _ _ _ (@gk _) (@eY _ _ _ _ _ _ _ _ (@gg _) (@pv _ 1 _ _ (by rfl) (by first |exact Or.inl rfl |exact Or.inr (Or.inl rfl)|exact Or.inr (Or.inr rfl)) (by decide) (by decide)) (@eR _ _ _ _)) (@eR _ _ _ _)) (@eL _ _ _ _ _ (@eY _ _ _ _ _ _ _ _ (@gk _) (@eY _ _ _ _ _ _ _ _ (@gg _) (@pv _ 1 _ _ (by rfl) (by first |exact Or.inl rfl |exact Or.inr (Or.inl rfl)|exact Or.inr (Or.inr rfl)) (by decide) (by decide)) (@eR _ _ _ _)) (@eR _ _ _ _)) (@eM _) (by rfl)) (by rfl))) (@eM _) (by rfl)))) (@eM _) (by rfl)) (by rfl))) (@eM _) (by rfl)) (by decide) (by rfl) (by rfl))))) (@fc _)) (@eQ _ _ _ (@fb _ _ _ _ (@fU _ _ _ _ _ _ _ (@fM _) (@fN _ _ _ _ (@eL _ _ _ _ _ (@eU _ _ _ _) (@eL _ _ _ _ _ (@eU _ _ _ _) (@eL _ _ _ _ _ (@eU _ _ _ _) (@eL _ _ _ _ _ (@eU _ _ _ _) (@eM _) (by rfl)) (by rfl)) (by rfl)) (by rfl))) (@eY _ _ _ _ _ _ _ _ (@sR _) (@pv _ 5 _ _ (by rfl) (by first |exact Or.inl rfl |exact Or.inr (Or.inl rfl)|exact Or.inr (Or.inr rfl)) (by decide) (by decide)) (@eR _ _ _ _)) (λ_ _=>rfl))))))))))))),?_⟩
  refine⟨_,rfl,_,_,rfl,rfl,⟨by decide,by decide⟩,_,_,rfl,rfl,(by show(0:Int)<20;decide),n/16%20,rfl,by omega,by omega,λH1 s1=>?_⟩
  have he:(txE (n/16%20)).length<=3:=(jj (by omega) (by omega)).2.2
  generalize txE (n/16%20)=et at he ⊢
  dsimp only[lI]
  refine qF (λσ G=>∃ (v':V) (l:Ln),σ = [some (.ref sa),some (.int n),some (.str et),some v',none,none]/\eW H G/\Da K G (dL l) v'/\gb l/\l.2.length<=12) (λnx kn=>?_) ?_
  ·refine⟨by show 2<=sizeLine;decide,λp1 np1=>⟨by show 1<=sizeLine;decide,λp2 np2=>⟨by show 2<=sizeLine;decide,λp3 np3=>?_⟩⟩⟩
   have s4:=s1.trans ((eN (o:=.tup [.int 0,.int 2]) np1).trans ((eN (o:=.lst [.ref p1]) np2).trans (eN (o:=.tup [.int 3,.ref p2]) np3)))
   have dl:Da K (upd (upd (upd H1 p1 (.tup [.int 0,.int 2])) p2 (.lst [.ref p1])) p3 (.tup [.int 3,.ref p2])) (dL (3,[(0,2)])) (.ref p3):=by
    refine oo (l:=(3,[(0,2)])) eO ?_
    refine iY.mpr ⟨p2,_,rfl,SqL.of ((eN np3) _ _ eO),Dgs.one ?_⟩
    exact gd.mpr ⟨p1,_,rfl,SqT.of (((eN np2).trans (eN np3)) _ _ eO),Dgs.two (gj.mpr rfl) (gj.mpr rfl)⟩
   generalize upd (upd (upd H1 p1 _) p2 _) p3 _=H4 at s4 dl ⊢
   refine⟨_,rfl,sa,_,_,v,rfl,rfl,SqL.of (s4 _ _ hd),rfl,by show 2<=sizeLine;decide,λp4 np4=>?_⟩
   have s5:=eN (o:=.lst [.ref p3,v]) np4
   have h5:=eO (H:=H4) (a:=p4) (o:=.lst [.ref p3,v])
   generalize upd H4 p4 _=H5 at s5 h5 ⊢
   have S5:=s4.trans s5
   refine⟨_,rfl,sa,_,_,v,rfl,rfl,SqL.of (S5 _ _ hd),rfl,.inr ⟨_,rfl,?_⟩⟩
   rcases hS:S.1 with _ |l
   ·rw[hS]at hv
    have hv:v = .non:=hv
    have hb:(!decide (v=V.non))=false:=by simp[hv]
    rw[hb]
    exact⟨p4,_,_,.ref p3,rfl,rfl,SqL.of h5,rfl,kn _ _ ⟨_,(3,[(0,2)]),rfl,S5,Da.same s5 dl,by unfold gb okJ;refine⟨by decide,by decide,by decide,by decide,by decide⟩,by decide⟩⟩
   ·rw[hS]at hv
    have hv:Da K H (dL l) v:=hv
    have hb:(!decide (v=V.non))=true:=by obtain⟨a,b,e,_⟩:=i3 hv;rw[e];rfl
    rw[hb]
    exact⟨p4,_,_,v,rfl,rfl,SqL.of h5,rfl,kn _ _ ⟨_,l,rfl,S5,Da.same S5 hv,dS.l l hS,dN l hS⟩⟩
  rintro σ G ⟨v',l,rfl,sG,hl,il,nl⟩
  have lok:gI l:=gb.BF il (by omega)
  clear hd hv hu dS dN s1
  refine⟨_,rfl,_,rfl,_,_,rfl,rfl,⟨by decide,by decide⟩,v',l,n/16,5,rfl,hl,lok,gb.ne il,by omega,by decide,by decide,λpt ts H6 s6 _ ht tne tl tok=>?_⟩
  have S6:=sG.trans s6
  have hl6:=Da.same s6 hl
  have okn:OkN ts:=isT.okN il ⟨tne,tok⟩
  have tln:(txT ts).length<=200:=(Fe okn tne).2
  refine⟨_,rfl,_,_,rfl,rfl,(by show(0:Int)<16;decide),?_⟩
  have w0:0<=n%16:=by omega
  have w1:n%16<16:=by omega
  dsimp only[lI]
  generalize n%16=wy at w0 w1 ⊢
  have big:∀ {n:Nat},n<=1000->n<=sizeLine:=λh=>hV (by omega)
  have hDt:Da K H6 (dI ts) (.ref pt):=iJ.mpr ⟨pt,rfl,SqL.of ht⟩
  refine⟨_,rfl,_,_,rfl,rfl,_,rfl,fG (λh=>?_) (λh=>?_)⟩
  ·obtain⟨x,hx,hat⟩:=pk ["on ","back "] (by decide +kernel) (i:=wy%2) (by omega) (by show _<(2:Int);omega)
   exact⟨by show 2<=sizeLine;decide,λq nq=>⟨_,rfl,_,_,rfl,rfl,(by show(0:Int)<2;decide),q,_,_,_,rfl,rfl,SqL.of eO,hat,_,rfl,x,et,rfl,rfl,big (by omega),k _ _ (S6.trans (eN nq)) (by rw[ag];omega)⟩⟩
  have g4:4<=wy:=by have:=cE (bQ.mpr h);omega
  refine⟨_,rfl,_,_,rfl,rfl,_,rfl,fG (λh=>?_) (λh=>?_)⟩
  ·have h:wy<7:=cc h
   obtain⟨x,hx,hat⟩:=pk ["train ","least ","fewest "] (by decide +kernel) (i:=wy-4) (by omega) (by show _<(3:Int);omega)
   exact⟨by show 3<=sizeLine;decide,λq nq=>⟨_,rfl,_,_,rfl,rfl,q,_,_,_,rfl,rfl,SqL.of eO,hat,_,rfl,_,ts,rfl,Da.same (eN nq) hDt,okn,λH7 s7=>⟨x,txT ts,rfl,rfl,big (by omega),k _ _ (S6.trans ((eN nq).trans s7)) (by rw[ag];omega)⟩⟩⟩
  have g7:7<=wy:=by have:=cE (bQ.mpr h);omega
  refine⟨_,rfl,_,_,rfl,rfl,_,rfl,fG (λh=>?_) (λh=>?_)⟩
  ·have h:wy<10:=cc h
   obtain⟨x,hx,hat⟩:=pk ["train ","least ","fewest "] (by decide +kernel) (i:=wy-7) (by omega) (by show _<(3:Int);omega)
   refine⟨by show 3<=sizeLine;decide,λq nq=>⟨_,rfl,_,_,rfl,rfl,q,_,_,_,rfl,rfl,SqL.of eO,hat,_,rfl,_,ts,rfl,Da.same (eN nq) hDt,okn,λH7 s7=>⟨x,txT ts,rfl,rfl,big (by omega),x++txT ts," ",rfl,rfl,big (by rw[ag];show _+1<=_;omega),_,rfl,x++txT ts ++ " ",et,rfl,rfl,big (by rw[ag,ag];show _+1+_<=_;omega),k _ _ (S6.trans ((eN nq).trans s7)) (by rw[ag,ag,ag];show _+1+_<=_;omega)⟩⟩⟩
  have g10:10<=wy:=by have:=cE (bQ.mpr h);omega
  refine⟨_,rfl,_,_,rfl,rfl,_,rfl,fG (λh=>?_) (λh=>?_)⟩
  ·have l2:=(qZ (n:=n/16%12) (by omega) (by omega)).2.2
   exact⟨_,rfl,_,_,rfl,rfl,⟨by decide,by decide⟩,_,_,rfl,rfl,(by show(0:Int)<12;decide),n/16%12,rfl,log2_small (by omega) (by omega),"sides ",txN (n/16%12),rfl,rfl,big (by show 6+_<=_;omega),k _ _ S6 (by rw[ag];show 6+(txN (n/16%12)).length<=_;omega)⟩
  have h:¬wy=10:=cE (bQ.mpr h)
  refine⟨_,rfl,_,_,rfl,rfl,_,rfl,fG (λh=>?_) (λh=>?_)⟩
  ·obtain⟨al,bl,rfl,hlt,us,hll,hlq⟩:=i3 hl6
   have hul:us.length=l.2.length:=by rw[Dgs.length hlq,aa]
   refine⟨_,rfl,al,_,_,_,rfl,rfl,hlt,rfl,_,rfl,al,_,_,_,rfl,rfl,hlt,rfl,?_⟩
   refine⟨_,rfl,_,_,rfl,rfl,⟨by decide,by decide⟩,_,_,rfl,rfl,(by show(0:Int)<20;decide),_,rfl,_,_,rfl,rfl,⟨by decide,by decide⟩,_,_,rfl,rfl,(by show(0:Int)<20;decide),by show 2<=sizeLine;decide,λq1 nq1=>⟨by show 1<=sizeLine;decide,λq2 nq2=>?_⟩⟩
   dsimp only at nq1 nq2 ⊢
   have x0:0<=n/16%20/\n/16%20<82:=by omega
   have y0:0<=n/320%20/\n/320%20<82:=by omega
   generalize n/16%20=xx at x0 nq1 nq2 ⊢
   generalize n/320%20=yy at y0 nq1 nq2 ⊢
   have u1:=eN (o:=.tup [.int xx,.int yy]) nq1
   have u2:=eN (o:=.lst [.ref q1]) nq2
   refine⟨bl,q2,us,[.ref q1],rfl,rfl,(u1.trans u2).seq hll,SqL.of eO,big (by show _+1<=_;omega),λq3 nq3=>⟨by show 2<=sizeLine;decide,λq4 nq4=>?_⟩⟩
   have u3:=eN (o:=.lst (us ++ [.ref q1])) nq3
   have u4:=eN (o:=.tup [.int l.1,.ref q3]) nq4
   have U:=u1.trans (u2.trans (u3.trans u4))
   have d1:Da K (upd (upd (upd (upd H6 q1 (.tup [.int xx,.int yy])) q2 (.lst [.ref q1])) q3 (.lst (us ++ [.ref q1]))) q4 (.tup [.int l.1,.ref q3])) (dL (l.1,l.2 ++ [(xx,yy)])) (.ref q4):=by
    refine oo (l:=(l.1,l.2 ++ [(xx,yy)])) eO ?_
    refine iY.mpr ⟨q3,_,rfl,SqL.of (u4 _ _ eO),?_⟩
    show Dgs _ _ ((l.2 ++ [(xx,yy)]).map dP) _
    rw[aC]
    exact(Das.same U hlq).append (Dgs.one (gd.mpr ⟨q1,_,rfl,SqT.of ((u2.trans (u3.trans u4)) _ _ eO),Dgs.two (gj.mpr rfl) (gj.mpr rfl)⟩))
   generalize upd (upd (upd (upd H6 q1 _) q2 _) q3 _) q4 _=H7 at U d1 ⊢
   have sm:small (l.1,l.2 ++ [(xx,yy)]):=by
    obtain⟨a1,a2,a3,a4⟩:=gb.small il
    refine⟨a1,a2,?_,λp hp=>?_⟩
    ·show(l.2 ++ [(xx,yy)]).length<=81
     rw[aG];show _+1<=_;omega
    ·rcases aL.mp hp with hp |hp
     ·exact a4 p hp
     ·rw[bL]at hp;rw[hp];exact⟨x0,y0⟩
   have tl:=GO sm (by show(l.2 ++ [(xx,yy)]).length<=13;rw[aG];show _+1<=_;omega)
   exact⟨_,_,rfl,d1,sm,λH8 s8=>⟨"line ",_,rfl,rfl,big (by show 5+_<=_;omega),k _ _ (S6.trans (U.trans s8)) (by rw[ag];show 5+(txL (l.1,l.2 ++ [(xx,yy)])).length<=_;omega)⟩⟩
  have h:¬wy=11:=cE (bQ.mpr h)
  obtain⟨x,hx,hat⟩:=pk ["here","moves","round","turn"] (by decide +kernel) (i:=wy-12) (by omega) (by show _<(4:Int);omega)
  exact⟨by show 4<=sizeLine;decide,λq nq=>⟨_,rfl,_,_,rfl,rfl,q,_,_,_,rfl,rfl,SqL.of eO,hat,k _ _ (S6.trans (eN nq)) (by omega)⟩⟩
end
theorem tH (ws:List Str)(h:0<=i):nO (ws.map V.str) none (some i)=(ws.take i.toNat).map V.str:=by rw[AY _ h,cV]
theorem tI (ws:List Str)(h:0<=i):nO (ws.map V.str) (some i) none=(ws.drop i.toNat).map V.str:=by rw[wg _ h,cW]
theorem GQ (a:List Str)(i:Nat):tot (a.take i)+tot (a.drop i)=tot a:=by rw[<-oF,cJ]
theorem EO (a:List Str)(h:0<=i):tot (a.drop (i+1).toNat)<=tot (a.drop i.toNat):=by
 have:=EN (a.drop i.toNat) 1
 rw[List.drop_drop]at this
 rw[show(i+1).toNat=i.toNat+1 by omega]
 exact this
theorem JQ {l:List Nat}(h0:0<=i)(h1:i<(l.length:Int)):∃ c,atI l i=some c:=by
 have hl:i.toNat<l.length:=by omega
 refine⟨l[i.toNat],?_⟩
 have e:ixN l.length i=some i.toNat:=by unfold ixN;rw[av h0,av (by omega)]
 unfold atI
 rw[e]
 exact aO hl
noncomputable def Cf:Sp:=λvs H Q _=>∃ (z:Str) (n c:Int),vs = [.str z,.int n,.int c]/\z.length<=300/\0<=n/\0<=c/\∀ (y:Str) H',eW H H'->y.length<=2*z.length+20->Q (.str y) H'
noncomputable abbrev oV:Stmt:=top 110
theorem jx:fh ["_law_row","_law_number_here","_law_cell","_law_words","_law_spot","_law_odd","_law_way","_law_place","_law_sign"] ["_law_row","_law_number_here","_law_cell"] (eT oV):=⟨rfl,rfl,rfl,by decide +kernel,rfl,by decide +kernel,by decide +kernel⟩
section
variable {P:Program}{w:World}{K:PySem.W.Frag}{mg:Str->Option Value}{base:Heap}{f:Addr}{fd:FuncData}
theorem Ap (F:Fn K mg "_law_bent" oV ["_law_row","_law_number_here","_law_cell"] f fd)(B:Bm mg):eX P w K mg base CX0 1 f fd ["_law_row","_law_number_here","_law_cell"] Cf:=by
 refine F.F.ok jx (λvs H Q E h=>?_) (λcdv A outer s H vs Q E hr h=>?_)
 ·obtain⟨z,n,c,rfl,_⟩:=h;rfl
 ·obtain⟨z,n,c,rfl,hz,n0,c0,k⟩:=h
  refine⟨_,(@eP _ _ _ _ _ (@fk _ _ (3) _ _ _ _ jx.nd rfl (Or.inl rfl) (@jt _ _ _ _ _ _ _ _ _ _ _ _ aS bg bP (@mP _) (@pv _ 0 _ _ (by rfl) (by first |exact Or.inl rfl |exact Or.inr (Or.inl rfl)|exact Or.inr (Or.inr rfl)) (by decide) (by decide)) (@eL _ _ _ _ _ (@eU _ _ _ _) (@eM _) (by rfl)) (by rfl) (by rfl) (by rfl) (by rfl) (by rfl)) (by rfl) (by first |exact .inl rfl |exact .inr rfl |assumption)) (@eP _ _ _ _ _ (@fk _ _ (4) _ _ _ _ jx.nd rfl (Or.inl rfl) (@eY _ _ _ _ _ _ _ _ (@gk _) (@eY _ _ _ _ _ _ _ _ (@gg _) (@pv _ 1 _ _ (by rfl) (by first |exact Or.inl rfl |exact Or.inr (Or.inl rfl)|exact Or.inr (Or.inr rfl)) (by decide) (by decide)) (@eR _ _ _ _)) (@fA _ _ _ _ _ _ _ _ _ (@fI _) rfl B.len bz (@eL _ _ _ _ _ (@pv _ 3 _ _ (by rfl) (by first |exact Or.inl rfl |exact Or.inr (Or.inl rfl)|exact Or.inr (Or.inr rfl)) (by decide) (by decide)) (@eM _) (by rfl)) (by decide) (by decide) (by rfl) (by rfl))) (by rfl) (by first |exact .inl rfl |exact .inr rfl |assumption)) (@eP _ _ _ _ _ (@fk _ _ (5) _ _ _ _ jx.nd rfl (Or.inl rfl) (@fN _ _ _ _ (@eL _ _ _ _ _ (@eU _ _ _ _) (@eL _ _ _ _ _ (@eU _ _ _ _) (@eL _ _ _ _ _ (@eU _ _ _ _) (@eL _ _ _ _ _ (@eU _ _ _ _) (@eL _ _ _ _ _ (@eU _ _ _ _) (@eL _ _ _ _ _ (@eU _ _ _ _) (@eL _ _ _ _ _ (@eU _ _ _ _) (@eL _ _ _ _ _ (@eU _ _ _ _) (@eL _ _ _ _ _ (@eU _ _ _ _) (@eM _) (by rfl)) (by rfl)) (by rfl)) (by rfl)) (by rfl)) (by rfl)) (by rfl)) (by rfl)) (by rfl))) (by rfl) (by first |exact .inl rfl |exact .inr rfl |assumption)) (@eP _ _ _ _ _ (@fk _ _ (6) _ _ _ _ jx.nd rfl (Or.inl rfl) (@eY _ _ _ _ _ _ _ _ (@gk _) (@pv _ 1 _ _ (by rfl) (by first |exact Or.inl rfl |exact Or.inr (Or.inl rfl)|exact Or.inr (Or.inr rfl)) (by decide) (by decide)) (@eR _ _ _ _)) (by rfl) (by first |exact .inl rfl |exact .inr rfl |assumption)) (@eP _ _ _ _ _ (@fF _ _ _ _ _ _ _ _ (fC (@mO _ _ _ _ _ (@pv _ 6 _ _ (by rfl) (by first |exact Or.inl rfl |exact Or.inr (Or.inl rfl)|exact Or.inr (Or.inr rfl)) (by decide) (by decide)) (@eR _ _ _ _))) (@eQ _ _ _ (@fb _ _ _ _ (@jt _ _ _ _ _ _ _ _ _ _ _ _ aS cm ck (@vP _) (@eU _ _ _ _) (@eL _ _ _ _ _ (@eY _ _ _ _ _ _ _ _ (@iP _) (@gF _ _ _ _ _ _ _ _ _ _ (@iU _) (@pv _ 3 _ _ (by rfl) (by first |exact Or.inl rfl |exact Or.inr (Or.inl rfl)|exact Or.inr (Or.inr rfl)) (by decide) (by decide)) (@gY _) (@gX _ _ _ (@pv _ 4 _ _ (by rfl) (by first |exact Or.inl rfl |exact Or.inr (Or.inl rfl)|exact Or.inr (Or.inr rfl)) (by decide) (by decide)))) (@gF _ _ _ _ _ _ _ _ _ _ (@iU _) (@pv _ 3 _ _ (by rfl) (by first |exact Or.inl rfl |exact Or.inr (Or.inl rfl)|exact Or.inr (Or.inr rfl)) (by decide) (by decide)) (@gX _ _ _ (@eY _ _ _ _ _ _ _ _ (@iI _) (@pv _ 4 _ _ (by rfl) (by first |exact Or.inl rfl |exact Or.inr (Or.inl rfl)|exact Or.inr (Or.inr rfl)) (by decide) (by decide)) (@eR _ _ _ _))) (@gY _))) (@eM _) (by rfl)) (by rfl) (by rfl) (by rfl) (by rfl) (by rfl)))) (@fc _)) (@eP _ _ _ _ _ (@fF _ _ _ _ _ _ _ _ (fC (@mO _ _ _ _ _ (@pv _ 6 _ _ (by rfl) (by first |exact Or.inl rfl |exact Or.inr (Or.inl rfl)|exact Or.inr (Or.inr rfl)) (by decide) (by decide)) (@eR _ _ _ _))) (@eQ _ _ _ (@fb _ _ _ _ (@jt _ _ _ _ _ _ _ _ _ _ _ _ aS cm ck (@vP _) (@eU _ _ _ _) (@eL _ _ _ _ _ (@eY _ _ _ _ _ _ _ _ (@iP _) (@eY _ _ _ _ _ _ _ _ (@iP _) (@gF _ _ _ _ _ _ _ _ _ _ (@iU _) (@pv _ 3 _ _ (by rfl) (by first |exact Or.inl rfl |exact Or.inr (Or.inl rfl)|exact Or.inr (Or.inr rfl)) (by decide) (by decide)) (@gY _) (@gX _ _ _ (@pv _ 4 _ _ (by rfl) (by first |exact Or.inl rfl |exact Or.inr (Or.inl rfl)|exact Or.inr (Or.inr rfl)) (by decide) (by decide)))) (@fN _ _ _ _ (@eL _ _ _ _ _ (@fU _ _ _ _ _ _ _ (@fM _) (@pv _ 5 _ _ (by rfl) (by first |exact Or.inl rfl |exact Or.inr (Or.inl rfl)|exact Or.inr (Or.inr rfl)) (by decide) (by decide)) (@eY _ _ _ _ _ _ _ _ (@gk _) (@pv _ 2 _ _ (by rfl) (by first |exact Or.inl rfl |exact Or.inr (Or.inl rfl)|exact Or.inr (Or.inr rfl)) (by decide) (by decide)) (@eR _ _ _ _)) (λ_ _=>rfl)) (@eM _) (by rfl)))) (@gF _ _ _ _ _ _ _ _ _ _ (@iU _) (@pv _ 3 _ _ (by rfl) (by first |exact Or.inl rfl |exact Or.inr (Or.inl rfl)|exact Or.inr (Or.inr rfl)) (by decide) (by decide)) (@gX _ _ _ (@pv _ 4 _ _ (by rfl) (by first |exact Or.inl rfl |exact Or.inr (Or.inl rfl)|exact Or.inr (Or.inr rfl)) (by decide) (by decide))) (@gY _))) (@eM _) (by rfl)) (by rfl) (by rfl) (by rfl) (by rfl) (by rfl)))) (@fc _)) (@eP _ _ _ _ _ (@fF _ _ _ _ _ _ _ _ (fC (@mO _ _ _ _ _ (@pv _ 6 _ _ (by rfl) (by first |exact Or.inl rfl |exact Or.inr (Or.inl rfl)|exact Or.inr (Or.inr rfl)) (by decide) (by decide)) (@eR _ _ _ _))) (@eQ _ _ _ (@fb _ _ _ _ (@jt _ _ _ _ _ _ _ _ _ _ _ _ aS cm ck (@vP _) (@eU _ _ _ _) (@eL _ _ _ _ _ (@eY _ _ _ _ _ _ _ _ (@iP _) (@eY _ _ _ _ _ _ _ _ (@iP _) (@gF _ _ _ _ _ _ _ _ _ _ (@iU _) (@pv _ 3 _ _ (by rfl) (by first |exact Or.inl rfl |exact Or.inr (Or.inl rfl)|exact Or.inr (Or.inr rfl)) (by decide) (by decide)) (@gY _) (@gX _ _ _ (@pv _ 4 _ _ (by rfl) (by first |exact Or.inl rfl |exact Or.inr (Or.inl rfl)|exact Or.inr (Or.inr rfl)) (by decide) (by decide)))) (@fN _ _ _ _ (@eL _ _ _ _ _ (@fU _ _ _ _ _ _ _ (@fM _) (@pv _ 5 _ _ (by rfl) (by first |exact Or.inl rfl |exact Or.inr (Or.inl rfl)|exact Or.inr (Or.inr rfl)) (by decide) (by decide)) (@eY _ _ _ _ _ _ _ _ (@gk _) (@pv _ 2 _ _ (by rfl) (by first |exact Or.inl rfl |exact Or.inr (Or.inl rfl)|exact Or.inr (Or.inr rfl)) (by decide) (by decide)) (@eR _ _ _ _)) (λ_ _=>rfl)) (@eM _) (by rfl)))) (@gF _ _ _ _ _ _ _ _ _ _ (@iU _) (@pv _ 3 _ _ (by rfl) (by first |exact Or.inl rfl |exact Or.inr (Or.inl rfl)|exact Or.inr (Or.inr rfl)) (by decide) (by decide)) (@gX _ _ _ (@eY _ _ _ _ _ _ _ _ (@iI _) (@pv _ 4 _ _ (by rfl) (by first |exact Or.inl rfl |exact Or.inr (Or.inl rfl)|exact Or.inr (Or.inr rfl)) (by decide) (by decide)) (@eR _ _ _ _))) (@gY _))) (@eM _) (by rfl)) (by rfl) (by rfl) (by rfl) (by rfl) (by rfl)))) (@fc _)) (@eP _ _ _ _ _ (@fF _ _ _ _ _ _ _ _ (fC (@pZ _ _ _ _ _ (@pv _ 6 _ _ (by rfl) (by first |exact Or.inl rfl |exact Or.inr (Or.inl rfl)|exact Or.inr (Or.inr rfl)) (by decide) (by decide)) (@eR _ _ _ _))) (@eQ _ _ _ (@fb _ _ _ _ (@pv _ 0 _ _ (by rfl) (by first |exact Or.inl rfl |exact Or.inr (Or.inl rfl)|exact Or.inr (Or.inr rfl)) (by decide) (by decide)))) (@fc _)) (@eP _ _ _ _ _ (@fk _ _ (7) _ _ _ _ jx.nd rfl (Or.inl rfl) (@eY _ _ _ _ _ _ _ _ (@gk _) (@eY _ _ _ _ _ _ _ _ (@gg _) (@pv _ 1 _ _ (by rfl) (by first |exact Or.inl rfl |exact Or.inr (Or.inl rfl)|exact Or.inr (Or.inr rfl)) (by decide) (by decide)) (@eR _ _ _ _)) (@eY _ _ _ _ _ _ _ _ (@iI _) (@fA _ _ _ _ _ _ _ _ _ (@ph _) rfl B.len bz (@eL _ _ _ _ _ (@pv _ 0 _ _ (by rfl) (by first |exact Or.inl rfl |exact Or.inr (Or.inl rfl)|exact Or.inr (Or.inr rfl)) (by decide) (by decide)) (@eM _) (by rfl)) (by decide) (by decide) (by rfl) (by rfl)) (@eR _ _ _ _))) (by rfl) (by first |exact .inl rfl |exact .inr rfl |assumption)) (@eP _ _ _ _ _ (@fk _ _ (8) _ _ _ _ jx.nd rfl (Or.inl rfl) (@fU _ _ _ _ _ _ _ (@rz _) (@eU _ _ _ _) (@eY _ _ _ _ _ _ _ _ (@gk _) (@pv _ 2 _ _ (by rfl) (by first |exact Or.inl rfl |exact Or.inr (Or.inl rfl)|exact Or.inr (Or.inr rfl)) (by decide) (by decide)) (@eR _ _ _ _)) (λ_ _=>rfl)) (by rfl) (by first |exact .inl rfl |exact .inr rfl |assumption)) (@eQ _ _ _ (@fb _ _ _ _ (@eY _ _ _ _ _ _ _ _ (@fV _) (@eY _ _ _ _ _ _ _ _ (@fV _) (@gF _ _ _ _ _ _ _ _ _ _ (@Cg _) (@pv _ 0 _ _ (by rfl) (by first |exact Or.inl rfl |exact Or.inr (Or.inl rfl)|exact Or.inr (Or.inr rfl)) (by decide) (by decide)) (@gY _) (@gX _ _ _ (@pv _ 7 _ _ (by rfl) (by first |exact Or.inl rfl |exact Or.inr (Or.inl rfl)|exact Or.inr (Or.inr rfl)) (by decide) (by decide)))) (@eY _ _ _ _ _ _ _ _ (@yV _) (@pv _ 8 _ _ (by rfl) (by first |exact Or.inl rfl |exact Or.inr (Or.inl rfl)|exact Or.inr (Or.inr rfl)) (by decide) (by decide)) (@eY _ _ _ _ _ _ _ _ (@gk _) (@pv _ 6 _ _ (by rfl) (by first |exact Or.inl rfl |exact Or.inr (Or.inl rfl)|exact Or.inr (Or.inr rfl)) (by decide) (by decide)) (@eR _ _ _ _)))) (@gF _ _ _ _ _ _ _ _ _ _ (@Cg _) (@pv _ 0 _ _ (by rfl) (by first |exact Or.inl rfl |exact Or.inr (Or.inl rfl)|exact Or.inr (Or.inr rfl)) (by decide) (by decide)) (@gX _ _ _ (@eY _ _ _ _ _ _ _ _ (@iI _) (@pv _ 7 _ _ (by rfl) (by first |exact Or.inl rfl |exact Or.inr (Or.inl rfl)|exact Or.inr (Or.inr rfl)) (by decide) (by decide)) (@eY _ _ _ _ _ _ _ _ (@gg _) (@pv _ 6 _ _ (by rfl) (by first |exact Or.inl rfl |exact Or.inr (Or.inl rfl)|exact Or.inr (Or.inr rfl)) (by decide) (by decide)) (@eR _ _ _ _)))) (@gY _))))))))))))))),?_⟩
  refine⟨_,rfl,rfl,z,_,rfl,rfl,by decide,by omega,λq4 nq4=>?_⟩
  rw[iD]
  have hts:=i9 z 32
  have hne:0<(wds z).length:=List.length_pos_iff.mpr (kB z 32)
  have hwn:(wds z).length<=z.length+1:=by have:=jK (wds z);unfold wds at this ⊢;omega
  have S4:=eN (o:=.lst ((Txt.split z (chS 32)).map V.str)) nq4
  have hq4:(upd H q4 (.lst ((Txt.split z (chS 32)).map V.str))) q4=some (.lst ((wds z).map V.str)):=eO
  generalize upd H q4 _=H4 at S4 hq4 ⊢
  have hts:tot (wds z)=z.length+1:=hts
  have j0:0<=n/8%(((wds z).map V.str).length:Int):=bK _ (by rw[aa];omega)
  refine⟨_,rfl,_,_,rfl,rfl,⟨by decide,by decide⟩,_,rfl,q4,_,rfl,.inl (SqL.of hq4),_,_,rfl,rfl,(by show(0:Int)<(((wds z).map V.str).length:Int);rw[aa];omega),?_⟩
  dsimp only[lI]
  generalize n/8%(((wds z).map V.str).length:Int)=sp at j0
  refine⟨by show 9<=sizeLine;decide,λq3 nq3=>?_⟩
  have hq3:=eO (H:=H4) (a:=q3) (o:=.lst [.str "",.str "0<",.str "0",.str "on",.str "x",.str "1>",.str "train",.str "00<",.str "2>"])
  have s3:=eN (o:=.lst [.str "",.str "0<",.str "0",.str "on",.str "x",.str "1>",.str "train",.str "00<",.str "2>"]) nq3
  have S4:=S4.trans s3
  have hq4:=s3 _ _ hq4
  generalize upd H4 q3 _=H5 at S4 hq3 hq4 ⊢
  obtain⟨wd,hwd,hat⟩:=pk ["","0<","0","on","x","1>","train","00<","2>"] (by decide +kernel) (i:=c%9) (by omega) (by show _<(9:Int);omega)
  refine⟨_,rfl,_,_,rfl,rfl,(by show(0:Int)<8;decide),?_⟩
  have w0:0<=n%8:=by omega
  have w1:n%8<8:=by omega
  dsimp only[lI]
  generalize n%8=wy at w0 w1 ⊢
  have t1:=GQ (wds z) sp.toNat
  have t3:=EO (wds z) j0
  have Xn:=jK ((wds z).take sp.toNat)
  have Xm:=jK ((wds z).drop sp.toNat)
  have Xk:=jK ((wds z).drop (sp+1).toNat)
  have fin:∀ (ts:List Str) (Hx:Hp),eW H Hx->tot ts<=2*z.length+20->Q (.str (Str.join (chS 32) ts)) Hx:=λts Hx S ht=>k _ Hx S (aT (Gb 32 ts) ht)
  have hSq:SqL K H5 q4 ((wds z).map V.str):=SqL.of hq4
  have hOd:SqL K H5 q3 (([Str.ofString "","0<","0","on","x","1>","train","00<","2>"]:List Str).map V.str):=SqL.of hq3
  refine⟨_,rfl,_,_,rfl,rfl,_,rfl,fG (λ_=>?_) (λ_=>?_)⟩
  ·refine⟨rfl,_,rfl,_,rfl,_,rfl,q4,_,rfl,hSq,λp1 np1=>?_⟩
   rw[tH _ j0]
   have s5:=eN (o:=.lst (((wds z).take sp.toNat).map V.str)) np1
   have h5:=eO (H:=H5) (a:=p1) (o:=.lst (((wds z).take sp.toNat).map V.str))
   generalize upd H5 p1 _=H6 at s5 h5 ⊢
   refine⟨_,rfl,_,rfl,_,_,rfl,rfl,_,rfl,q4,_,rfl,s5.seq hSq,λp4 np4=>?_⟩
   rw[tI _ (show(0:Int)<=sp+1 by omega)]
   have s8:=eN (o:=.lst (((wds z).drop (sp+1).toNat).map V.str)) np4
   refine⟨p1,p4,_,_,rfl,rfl,s8 _ _ h5,eO,hV (by rw[aa,aa];omega),λp5 np5=>?_⟩
   rw[<-aC]
   have s9:=eN (o:=.lst (((wds z).take sp.toNat++(wds z).drop (sp+1).toNat).map V.str)) np5
   have tt:tot ((wds z).take sp.toNat++(wds z).drop (sp+1).toNat)<=2*z.length+20:=by rw[oF];omega
   exact⟨32,p5,_,bF V.str iD,rfl,SqL.of eO,by omega,fin _ _ (S4.trans (s5.trans (s8.trans s9))) tt⟩
  refine⟨_,rfl,_,_,rfl,rfl,_,rfl,fG (λ_=>?_) (λ_=>?_)⟩
  ·refine⟨rfl,_,rfl,_,rfl,_,rfl,q4,_,rfl,hSq,λp1 np1=>?_⟩
   rw[tH _ j0]
   have s5:=eN (o:=.lst (((wds z).take sp.toNat).map V.str)) np1
   have h5:=eO (H:=H5) (a:=p1) (o:=.lst (((wds z).take sp.toNat).map V.str))
   generalize upd H5 p1 _=H6 at s5 h5 ⊢
   refine⟨_,rfl,_,rfl,_,_,rfl,rfl,(by show(0:Int)<9;decide),q3,_,_,.str wd,rfl,rfl,s5.seq hOd,hat,by show 1<=sizeLine;decide,λp2 np2=>?_⟩
   have s6:=eN (o:=.lst [.str wd]) np2
   refine⟨p1,p2,_,_,rfl,rfl,s6 _ _ h5,eO,hV (by rw[aa];show _+1<=_;omega),λp3 np3=>?_⟩
   have s7:=s5.trans (s6.trans (eN (o:=.lst (((wds z).take sp.toNat).map V.str ++ [.str wd])) np3))
   have h7:(upd (upd H6 p2 (.lst [.str wd])) p3 (.lst (((wds z).take sp.toNat).map V.str ++ [.str wd]))) p3=some (.lst (((wds z).take sp.toNat ++ [wd]).map V.str)):=by rw[eO,aC];rfl
   generalize upd (upd H6 p2 _) p3 _=H7 at s7 h7 ⊢
   refine⟨_,rfl,_,rfl,_,rfl,q4,_,rfl,s7.seq hSq,λp4 np4=>?_⟩
   rw[tI _ (show(0:Int)<=sp by omega)]
   have s8:=eN (o:=.lst (((wds z).drop (sp).toNat).map V.str)) np4
   refine⟨p3,p4,_,_,rfl,rfl,s8 _ _ h7,eO,hV (by rw[aa,aa,aG];show _+1+_<=_;omega),λp5 np5=>?_⟩
   rw[<-aC]
   have s9:=eN (o:=.lst (((wds z).take sp.toNat ++ [wd]++(wds z).drop (sp).toNat).map V.str)) np5
   have tt:tot ((wds z).take sp.toNat ++ [wd]++(wds z).drop (sp).toNat)<=2*z.length+20:=by rw[oF,oF,rF,B3];omega
   exact⟨32,p5,_,bF V.str iD,rfl,SqL.of eO,by omega,fin _ _ (S4.trans (s7.trans (s8.trans s9))) tt⟩
  refine⟨_,rfl,_,_,rfl,rfl,_,rfl,fG (λ_=>?_) (λ_=>?_)⟩
  ·refine⟨rfl,_,rfl,_,rfl,_,rfl,q4,_,rfl,hSq,λp1 np1=>?_⟩
   rw[tH _ j0]
   have s5:=eN (o:=.lst (((wds z).take sp.toNat).map V.str)) np1
   have h5:=eO (H:=H5) (a:=p1) (o:=.lst (((wds z).take sp.toNat).map V.str))
   generalize upd H5 p1 _=H6 at s5 h5 ⊢
   refine⟨_,rfl,_,rfl,_,_,rfl,rfl,(by show(0:Int)<9;decide),q3,_,_,.str wd,rfl,rfl,s5.seq hOd,hat,by show 1<=sizeLine;decide,λp2 np2=>?_⟩
   have s6:=eN (o:=.lst [.str wd]) np2
   refine⟨p1,p2,_,_,rfl,rfl,s6 _ _ h5,eO,hV (by rw[aa];show _+1<=_;omega),λp3 np3=>?_⟩
   have s7:=s5.trans (s6.trans (eN (o:=.lst (((wds z).take sp.toNat).map V.str ++ [.str wd])) np3))
   have h7:(upd (upd H6 p2 (.lst [.str wd])) p3 (.lst (((wds z).take sp.toNat).map V.str ++ [.str wd]))) p3=some (.lst (((wds z).take sp.toNat ++ [wd]).map V.str)):=by rw[eO,aC];rfl
   generalize upd (upd H6 p2 _) p3 _=H7 at s7 h7 ⊢
   refine⟨_,rfl,_,rfl,_,_,rfl,rfl,_,rfl,q4,_,rfl,s7.seq hSq,λp4 np4=>?_⟩
   rw[tI _ (show(0:Int)<=sp+1 by omega)]
   have s8:=eN (o:=.lst (((wds z).drop (sp+1).toNat).map V.str)) np4
   refine⟨p3,p4,_,_,rfl,rfl,s8 _ _ h7,eO,hV (by rw[aa,aa,aG];show _+1+_<=_;omega),λp5 np5=>?_⟩
   rw[<-aC]
   have s9:=eN (o:=.lst (((wds z).take sp.toNat ++ [wd]++(wds z).drop (sp+1).toNat).map V.str)) np5
   have tt:tot ((wds z).take sp.toNat ++ [wd]++(wds z).drop (sp+1).toNat)<=2*z.length+20:=by rw[oF,oF,rF,B3];omega
   exact⟨32,p5,_,bF V.str iD,rfl,SqL.of eO,by omega,fin _ _ (S4.trans (s7.trans (s8.trans s9))) tt⟩
  refine⟨_,rfl,_,_,rfl,rfl,_,rfl,fG (λ_=>⟨_,rfl,k _ _ S4 (by omega)⟩) (λh=>?_)⟩
  have w4:wy<=4:=by have:=cE (bQ.mpr h);omega
  refine⟨_,rfl,_,_,rfl,rfl,⟨by decide,by decide⟩,_,rfl,z,rfl,hV (by omega),_,_,rfl,rfl,_,_,rfl,rfl,(by show(0:Int)<(z.length:Int)+1;omega),?_⟩
  dsimp only[lI]
  generalize n/8%((z.length:Int)+1)=pl
  obtain⟨ch,hch⟩:=JQ (l:=(Str.ofString " 0123456789<>-onbacktrailse\n.A").cps.toList) (i:=c%30) (by omega) (by have e:(Str.ofString " 0123456789<>-onbacktrailse\n.A").cps.toList.length=30:=(by decide +kernel);rw[e];show _<(30:Int);omega)
  refine⟨_,rfl,_,_,rfl,rfl,(by show(0:Int)<30;decide),_,_,ch,rfl,rfl,hV (by decide +kernel),hch,?_⟩
  refine⟨_,rfl,_,rfl,_,rfl,z,rfl,hV (by omega),λy1 hy1=>?_⟩
  refine⟨_,rfl,_,rfl,_,_,rfl,rfl,(by show(0:Int)<2;decide),_,wy%2,rfl,rfl,(by show 1<=1000;decide),by omega,by omega,λr hr=>?_⟩
  have hr:r.length<=1:=by
   rw[hr]
   show 1*(wy%2).toNat<=1
   omega
  refine⟨y1,r,rfl,rfl,hV (by omega),?_⟩
  refine⟨_,rfl,_,rfl,_,rfl,_,_,rfl,rfl,⟨by decide,by decide⟩,_,_,rfl,rfl,_,rfl,z,rfl,hV (by omega),λy2 hy2=>?_⟩
  exact⟨y1++r,y2,rfl,rfl,hV (by rw[ag];omega),k _ _ S4 (by rw[ag,ag];omega)⟩
end
noncomputable def yz (K:PySem.W.Frag):Sp:=λvs H Q _=>∃ (a:Addr) (ns:List Int),vs = [.ref a]/\SqL K H a (ns.map V.int)/\∀ H',Q (.bl true) H'
theorem made {d dx C:Addr}{fs:List (Str×V)}(n1:H d=none)(n2:H dx=none):eW H (upd (upd (upd H dx (.own d)) d (.ins C dx [])) d (.ins C dx fs)):=λb o e=>by
 have h1:=ft e n1
 have h2:=ft e n2
 rw[fw h1,fw h1,fw h2];exact e
theorem Hl:Str.ofString "line " = Str.ofString "line" ++ chS 32:=by decide +kernel
theorem EL:Str.ofString "train " = Str.ofString "train" ++ chS 32:=by decide +kernel
section
variable {P:Program}{w:World}{K:PySem.W.Frag}{mg:Str->Option Value}{base:Heap}{c7 C:Addr}{cs:List Addr}{kr ka:List (Str×Addr)}{H:Hp}{d:Addr}{S:DS}{p:Addr->Prop}
theorem Ac (DD:yq P w K mg base kr ka C cs)(rd:gW z=some l)(zl:z.length<=2100)(il:gb l)(hD:Dsk K C p H d S)(dS:DOk S):uf P w K mg base kr ka c7 C cs H d p (Str.ofString "line " ++ z) (.ok "ok",(some l,none)):=by
 have:=Aa (c7:=c7) (ka:=ka) (x:=Str.ofString "line") (z:=z) (by decide +kernel) (by decide +kernel) (λq=>by rw[q]at rd;have e:gW Str.empty=none:=(by decide +kernel);rw[e]at rd;cases rd) zl (by decide) DD.line hD dS
 have e:oq S z=(.ok "ok",(some l,none)):=by unfold oq;rw[rd];exact av il
 rw[e,<-Hl]at this
 exact this
theorem DI {ts:List Int}(DD:yq P w K mg base kr ka C cs)(hl:S.1=some l)(oN:OkN ts)(it:isT l ts)(hD:Dsk K C p H d S)(dS:DOk S):uf P w K mg base kr ka c7 C cs H d p (Str.ofString "train " ++ txT ts) (.ok "ok",(some l,some ts)):=by
 obtain⟨rd,ln⟩:=Fe oN it.1
 have:=Aa (c7:=c7) (ka:=ka) (x:=Str.ofString "train") (z:=txT ts) (by decide +kernel) (by decide +kernel) (λz=>by rw[z]at rd;have q:rdT Str.empty=none:=(by decide +kernel);rw[q]at rd;cases rd) (by omega) (by decide) DD.EM hD dS
 have e:kc S (txT ts)=(.ok "ok",(some l,some ts)):=by unfold kc;rw[rd];dsimp only;rw[hl];exact av it
 rw[e,<-EL]at this
 exact this
end
theorem E3:PyData.strOk x=true↔∀ c∈x.cps.toList,c<1114112:=by
 unfold PyData.strOk
 rw[<-Array.all_toList,bY]
 simp
theorem vc {y:Str}(h1:PyData.strOk x=true)(h2:PyData.strOk y=true):PyData.strOk (x++y)=true:=by
 rw[E3]at h1 h2 ⊢
 intro c hc
 rw[ij]at hc
 exact(aL.mp hc).elim (h1 c) (h2 c)
theorem yD:∀ {ws:List Str},(∀ w∈ws,PyData.strOk w=true)->PyData.strOk (Str.join (chS 32) ws)=true
 |[],_=>by decide +kernel
 |[a],h=>h a au
 |a::b::r,h=>by
  rw[gK]
  exact vc (vc (h a au) (by decide +kernel)) (yD (ws:=b::r) λw hw=>h w (aq _ hw))
theorem Km {e:Int}(h0:0<=e)(h1:e<82):PyData.strOk (txE e)=true:=E3.mpr λc hc=>by
 have:=(jj h0 h1).2.1 c hc
 omega
theorem HW {a b:Str}(h1:PyData.strOk a=true)(h2:PyData.strOk b=true):OkD (.list [.str a,.str b]):=by
 refine⟨?_,?_⟩
 ·simp[PyData.canLay0,PyData.canLayAll0,h1,h2]
 ·simp[PyData.depth,PyData.depthAll]
theorem Lc (a b:Str):PyData.eqv (.list [.str a,.str b]) (.list [.str a,.str b])=true:=by
 simp[PyData.eqv,PyData.eqvAll]
theorem IH {row:Str}{j:Nat}(h:oX S row=some j):j<7:=by
 unfold oX at h
 split at h
 ·unfold kb at h
  repeat' split at h
  all_goals (cases h;try decide)
 ·split at h
  ·cases h;decide
  ·unfold Fd pW lN gS km rGo at h
   repeat' split at h
   all_goals (cases h;try decide)
theorem r0 (S:DS):oX S (Str.ofString "line pieces 2\njoint 1< 1<")=some 0:=by
 have e:prt (Str.ofString "line pieces 2\njoint 1< 1<")=(Str.ofString "line",chS 32,Str.ofString "pieces 2\njoint 1< 1<"):=by decide +kernel
 have rd:gW (Str.ofString "pieces 2\njoint 1< 1<")=some (2,[(2,2)]):=by decide +kernel
 unfold oX
 rw[e]
 rw[ak (by decide +kernel),ak (by decide +kernel)]
 unfold Fd
 rw[av rfl]
 unfold pW
 rw[rd]
 exact ak λh=>by
  have:=h.2.2.2.1 (2,2) au
  unfold okJ at this
  exact this.2.2.2 rfl
theorem C9 (h:∀ l t,(k l t).2=S/\∀ j,(k l t).1≠ .error j):(both S k).2=S/\∀ j,(both S k).1 = .error j->j<7:=by
 unfold both
 cases S.1 with
 |none=>exact⟨rfl,λj e=>by cases e;decide⟩
 |some l=>
  cases S.2 with
  |none=>exact⟨rfl,λj e=>by cases e;decide⟩
  |some t=>exact⟨(h l t).1,λj e=>absurd e ((h l t).2 j)⟩
theorem Hw (S:DS):(pM S).2=S/\∀ j,(pM S).1 = .error j->j<7:=C9 λl t=>⟨rfl,λj e=>by cases e⟩
theorem FQ (S:DS):(lT S).2=S/\∀ j,(lT S).1 = .error j->j<7:=C9 λl t=>⟨rfl,λj e=>by cases e⟩
noncomputable abbrev xM:Stmt:=top 111
theorem lM:fh ["_law_script","_law_head","_law_line_here","_law_train_here","_law_state","_law_desk","_law_stood","_law_cell","_law_number_here","_law_row","_law_due"] ["_law_script"] (eT xM):=⟨rfl,rfl,rfl,by decide +kernel,rfl,by decide +kernel,by decide +kernel⟩
section
variable {P:Program}{w:World}{K:PySem.W.Frag}{mg:Str->Option Value}{base:Heap}{f:Addr}{fd:FuncData}{D c1 c2 c3 c4 c5 c6 c7 C fi fs:Addr}{kr ka:List (Str×Addr)}
set_option maxHeartbeats 16000000 in
theorem Jb {f6 f7 f8 f9 g1 g2:Addr}{fd6 fd7 fd8 fd9 gd1 gd2 fdi fds:FuncData}(F:Fn K mg "law" xM ["_law_script"] f fd)(B:Bm mg)(DK:DkK K mg C fi fs)
  (DD:yq P w K mg base kr ka C [c1,c3,c4,c7,c6,c2,c5])
  (nC:Fm K "__init__" "Desk.__init__" iA ["self"] fi fdi) (jF:Fm K "say" "Desk.say" iH ["self","row"] fs fds)
  (ke:eX P w K mg base (CXr P w base) 8 fs fds ["self","row"] (yv P w K mg base kr ka c7))
  (lj:Fn K mg "_law_line" oS ["_law_script","_law_start","_law_most","_law_upto"] f1 fd1) (rD:eX P w K mg base CX0 3 f1 fd1 ["_law_script","_law_start","_law_most","_law_upto"] (B9 K))
  (fD:Fn K mg "_law_mix" mr ["_law_cell","_law_k"] f2 fd2) (fK:Fn K mg "_law_cell_at" jV ["_law_script","_law_k"] f3 fd3)
  (gR:Fn K mg "_law_train" jA ["_law_line_here","_law_number_here","_law_most"] f4 fd4) (kv:eX P w K mg base CX0 2 f4 fd4 ["_law_line_here","_law_number_here","_law_most"] (uX K))
  (fJ:Fn K mg "_law_train_text" hX ["_law_train_here"] f5 fd5) (gM:eX P w K mg base CX0 2 f5 fd5 ["_law_train_here"] (nX K))
  (gf:Fn K mg "_law_line_text" i7 ["_law_line_here"] f6 fd6) (iw:eX P w K mg base CX0 2 f6 fd6 ["_law_line_here"] (uZ K))
  (fQ:Fn K mg "_law_said" oR ["_law_desk","_law_row"] f7 fd7) (i5:eX P w K mg base CX0 9 f7 fd7 ["_law_desk","_law_row"] (B6 P w K mg base kr ka c7 C [c1,c3,c4,c7,c6,c2,c5]))
  (jh:Fn K mg "_law_any_row" lA ["_law_state","_law_number_here"] f8 fd8) (nS:eX P w K mg base CX0 3 f8 fd8 ["_law_state","_law_number_here"] (E2 K))
  (jf:Fn K mg "_law_odd_row" ly ["_law_number_here"] f9 fd9)
  (lp:Fn K mg "_law_bent" oV ["_law_row","_law_number_here","_law_cell"] g1 gd1)
  (je:Fn K mg "_law_row_due" lx ["_law_state","_law_row"] g2 gd2) (nR:eX P w K mg base CX0 5 g2 gd2 ["_law_state","_law_row"] (xG K)):
  eX P w K mg base CX0 11 f fd ["_law_script"] (yz K):=by
 have jc:eX P w K mg base CX0 1 f2 fd2 ["_law_cell","_law_k"] yx:=rn fD B.toBl
 have jX:eX P w K mg base CX0 1 f3 fd3 ["_law_script","_law_k"] (yC K):=p9 fK B.toBl
 have Bg:eX P w K mg base CX0 1 fi fdi ["self"] (Cd C):=zb nC DK
 have xu:eX P w K mg base CX0 1 f9 fd9 ["_law_number_here"] EW:=vJ jf B
 have BZ:eX P w K mg base CX0 1 g1 gd1 ["_law_row","_law_number_here","_law_cell"] Cf:=Ap lp B
 refine F.F.ok lM (λvs H Q E h=>?_) (λcdv A outer s H vs Q E hr h=>?_)
 ·obtain⟨a,ns,rfl,_⟩:=h;rfl
 ·obtain⟨a,ns,rfl,hS,k⟩:=h
  refine⟨_,(@eP _ _ _ _ _ (@fk _ _ (1) _ _ _ _ lM.nd rfl (Or.inl rfl) (@eS _ _ _ _ _ _ _ _ _ _ _ _ _ _ _ _ jc (hr.mono (by decide)) rfl fD.m fD.F.kp fD.b .nil (@fo _) (@eL _ _ _ _ _ (@eS _ _ _ _ _ _ _ _ _ _ _ _ _ _ _ _ jX (hr.mono (by decide)) rfl fK.m fK.F.kp fK.b .nil (@fo _) (@eL _ _ _ _ _ (@pv _ 0 _ _ (by rfl) (by first |exact Or.inl rfl |exact Or.inr (Or.inl rfl)|exact Or.inr (Or.inr rfl)) (by decide) (by decide)) (@eL _ _ _ _ _ (@eR _ _ _ _) (@eM _) (by rfl)) (by rfl)) (by decide) (by rfl) (by rfl)) (@eL _ _ _ _ _ (@eR _ _ _ _) (@eM _) (by rfl)) (by rfl)) (by decide) (by rfl) (by rfl)) (by rfl) (by first |exact .inl rfl |exact .inr rfl |assumption)) (@eP _ _ _ _ _ (@fk _ _ (2) _ _ _ _ lM.nd rfl (Or.inl rfl) (@eS _ _ _ _ _ _ _ _ _ _ _ _ _ _ _ _ rD (hr.mono (by decide)) rfl lj.m lj.F.kp lj.b .nil (@fo _) (@eL _ _ _ _ _ (@pv _ 0 _ _ (by rfl) (by first |exact Or.inl rfl |exact Or.inr (Or.inl rfl)|exact Or.inr (Or.inr rfl)) (by decide) (by decide)) (@eL _ _ _ _ _ (@eR _ _ _ _) (@eL _ _ _ _ _ (@eR _ _ _ _) (@eL _ _ _ _ _ (@eR _ _ _ _) (@eM _) (by rfl)) (by rfl)) (by rfl)) (by rfl)) (by decide) (by rfl) (by rfl)) (by rfl) (by first |exact .inl rfl |exact .inr rfl |assumption)) (@eP _ _ _ _ _ (@fk _ _ (3) _ _ _ _ lM.nd rfl (Or.inl rfl) (@eS _ _ _ _ _ _ _ _ _ _ _ _ _ _ _ _ kv (hr.mono (by decide)) rfl gR.m gR.F.kp gR.b .nil (@fo _) (@eL _ _ _ _ _ (@pv _ 2 _ _ (by rfl) (by first |exact Or.inl rfl |exact Or.inr (Or.inl rfl)|exact Or.inr (Or.inr rfl)) (by decide) (by decide)) (@eL _ _ _ _ _ (@eS _ _ _ _ _ _ _ _ _ _ _ _ _ _ _ _ jc (hr.mono (by decide)) rfl fD.m fD.F.kp fD.b .nil (@fo _) (@eL _ _ _ _ _ (@eS _ _ _ _ _ _ _ _ _ _ _ _ _ _ _ _ jX (hr.mono (by decide)) rfl fK.m fK.F.kp fK.b .nil (@fo _) (@eL _ _ _ _ _ (@pv _ 0 _ _ (by rfl) (by first |exact Or.inl rfl |exact Or.inr (Or.inl rfl)|exact Or.inr (Or.inr rfl)) (by decide) (by decide)) (@eL _ _ _ _ _ (@eR _ _ _ _) (@eM _) (by rfl)) (by rfl)) (by decide) (by rfl) (by rfl)) (@eL _ _ _ _ _ (@eR _ _ _ _) (@eM _) (by rfl)) (by rfl)) (by decide) (by rfl) (by rfl)) (@eL _ _ _ _ _ (@eR _ _ _ _) (@eM _) (by rfl)) (by rfl)) (by rfl)) (by decide) (by rfl) (by rfl)) (by rfl) (by first |exact .inl rfl |exact .inr rfl |assumption)) (@eP _ _ _ _ _ (@fk _ _ (4) _ _ _ _ lM.nd rfl (Or.inl rfl) (@fU _ _ _ _ _ _ _ (@fM _) (@fN _ _ _ _ (@eL _ _ _ _ _ (@fN _ _ _ _ (@eL _ _ _ _ _ (@ir _ _ _) (@eL _ _ _ _ _ (@ir _ _ _) (@eM _) (by rfl)) (by rfl))) (@eL _ _ _ _ _ (@fN _ _ _ _ (@eL _ _ _ _ _ (@pv _ 2 _ _ (by rfl) (by first |exact Or.inl rfl |exact Or.inr (Or.inl rfl)|exact Or.inr (Or.inr rfl)) (by decide) (by decide)) (@eL _ _ _ _ _ (@ir _ _ _) (@eM _) (by rfl)) (by rfl))) (@eL _ _ _ _ _ (@fN _ _ _ _ (@eL _ _ _ _ _ (@pv _ 2 _ _ (by rfl) (by first |exact Or.inl rfl |exact Or.inr (Or.inl rfl)|exact Or.inr (Or.inr rfl)) (by decide) (by decide)) (@eL _ _ _ _ _ (@pv _ 3 _ _ (by rfl) (by first |exact Or.inl rfl |exact Or.inr (Or.inl rfl)|exact Or.inr (Or.inr rfl)) (by decide) (by decide)) (@eM _) (by rfl)) (by rfl))) (@eL _ _ _ _ _ (@fN _ _ _ _ (@eL _ _ _ _ _ (@pv _ 2 _ _ (by rfl) (by first |exact Or.inl rfl |exact Or.inr (Or.inl rfl)|exact Or.inr (Or.inr rfl)) (by decide) (by decide)) (@eL _ _ _ _ _ (@pv _ 3 _ _ (by rfl) (by first |exact Or.inl rfl |exact Or.inr (Or.inl rfl)|exact Or.inr (Or.inr rfl)) (by decide) (by decide)) (@eM _) (by rfl)) (by rfl))) (@eM _) (by rfl)) (by rfl)) (by rfl)) (by rfl))) (@eY _ _ _ _ _ _ _ _ (@gk _) (@pv _ 1 _ _ (by rfl) (by first |exact Or.inl rfl |exact Or.inr (Or.inl rfl)|exact Or.inr (Or.inr rfl)) (by decide) (by decide)) (@eR _ _ _ _)) (λ_ _=>rfl)) (by rfl) (by first |exact .inl rfl |exact .inr rfl |assumption)) (@eP _ _ _ _ _ (@fk _ _ (5) _ _ _ _ lM.nd rfl (Or.inl rfl) (@Fy _ _ _ _ _ _ _ _ _ _ _ _ _ _ DK.mkr Bg (hr.mono (by decide)) rfl DK.m nC.b .nil (@fo _) (by decide)) (by rfl) (by first |exact .inl rfl |exact .inr rfl |assumption)) (@eP _ _ _ _ _ (@fF _ _ _ _ _ _ _ _ (fC (@rT _ _ _ _ _ (@fU _ _ _ _ _ _ _ (@fM _) (@pv _ 4 _ _ (by rfl) (by first |exact Or.inl rfl |exact Or.inr (Or.inl rfl)|exact Or.inr (Or.inr rfl)) (by decide) (by decide)) (@eR _ _ _ _) (λ_ _=>rfl)))) (@eQ _ _ _ (@iB _ _ _ _ (@Cm _ _ _ _ _ _ _ _ _ _ _ _ _ _ _ _ _ _ _ _ (@pv _ 5 _ _ (by rfl) (by first |exact Or.inl rfl |exact Or.inr (Or.inl rfl)|exact Or.inr (Or.inr rfl)) (by decide) (by decide)) DK.cl DK.say ke (hr.mono (by decide)) jF.b .nil (@xR _ _ _ _) (@eL _ _ _ _ _ (@eY _ _ _ _ _ _ _ _ (@fV _) (@eU _ _ _ _) (@eS _ _ _ _ _ _ _ _ _ _ _ _ _ _ _ _ iw (hr.mono (by decide)) rfl gf.m gf.F.kp gf.b .nil (@fo _) (@eL _ _ _ _ _ (@pv _ 2 _ _ (by rfl) (by first |exact Or.inl rfl |exact Or.inr (Or.inl rfl)|exact Or.inr (Or.inr rfl)) (by decide) (by decide)) (@eM _) (by rfl)) (by decide) (by rfl) (by rfl))) (@eM _) (by rfl)) (by rfl) (by rfl) (by rfl)) (by rfl))) (@fc _)) (@eP _ _ _ _ _ (@fF _ _ _ _ _ _ _ _ (fC (@rT _ _ _ _ _ (@fU _ _ _ _ _ _ _ (@fM _) (@pv _ 4 _ _ (by rfl) (by first |exact Or.inl rfl |exact Or.inr (Or.inl rfl)|exact Or.inr (Or.inr rfl)) (by decide) (by decide)) (@eR _ _ _ _) (λ_ _=>rfl)))) (@eQ _ _ _ (@iB _ _ _ _ (@Cm _ _ _ _ _ _ _ _ _ _ _ _ _ _ _ _ _ _ _ _ (@pv _ 5 _ _ (by rfl) (by first |exact Or.inl rfl |exact Or.inr (Or.inl rfl)|exact Or.inr (Or.inr rfl)) (by decide) (by decide)) DK.cl DK.say ke (hr.mono (by decide)) jF.b .nil (@xR _ _ _ _) (@eL _ _ _ _ _ (@eY _ _ _ _ _ _ _ _ (@fV _) (@eU _ _ _ _) (@eS _ _ _ _ _ _ _ _ _ _ _ _ _ _ _ _ gM (hr.mono (by decide)) rfl fJ.m fJ.F.kp fJ.b .nil (@fo _) (@eL _ _ _ _ _ (@pv _ 3 _ _ (by rfl) (by first |exact Or.inl rfl |exact Or.inr (Or.inl rfl)|exact Or.inr (Or.inr rfl)) (by decide) (by decide)) (@eM _) (by rfl)) (by decide) (by rfl) (by rfl))) (@eM _) (by rfl)) (by rfl) (by rfl) (by rfl)) (by rfl))) (@fc _)) (@eP _ _ _ _ _ (@fk _ _ (6) _ _ _ _ lM.nd rfl (Or.inl rfl) (@fN _ _ _ _ (@eL _ _ _ _ _ (@eS _ _ _ _ _ _ _ _ _ _ _ _ _ _ _ _ i5 (hr.mono (by decide)) rfl fQ.m fQ.F.kp fQ.b .nil (@fo _) (@eL _ _ _ _ _ (@pv _ 5 _ _ (by rfl) (by first |exact Or.inl rfl |exact Or.inr (Or.inl rfl)|exact Or.inr (Or.inr rfl)) (by decide) (by decide)) (@eL _ _ _ _ _ (@eU _ _ _ _) (@eM _) (by rfl)) (by rfl)) (by decide) (by rfl) (by rfl)) (@eL _ _ _ _ _ (@eS _ _ _ _ _ _ _ _ _ _ _ _ _ _ _ _ i5 (hr.mono (by decide)) rfl fQ.m fQ.F.kp fQ.b .nil (@fo _) (@eL _ _ _ _ _ (@pv _ 5 _ _ (by rfl) (by first |exact Or.inl rfl |exact Or.inr (Or.inl rfl)|exact Or.inr (Or.inr rfl)) (by decide) (by decide)) (@eL _ _ _ _ _ (@eU _ _ _ _) (@eM _) (by rfl)) (by rfl)) (by decide) (by rfl) (by rfl)) (@eM _) (by rfl)) (by rfl))) (by rfl) (by first |exact .inl rfl |exact .inr rfl |assumption)) (@eP _ _ _ _ _ (@jT _ _ _ _ _ _ _ _ bC rfl (@gc _ _ _ _ (@eY _ _ _ _ _ _ _ _ (@iP _) (@fN _ _ _ _ (@eL _ _ _ _ _ (@eR _ _ _ _) (@eL _ _ _ _ _ (@eR _ _ _ _) (@eM _) (by rfl)) (by rfl))) (@gF _ _ _ _ _ _ _ _ _ _ (@iU _) (@pv _ 0 _ _ (by rfl) (by first |exact Or.inl rfl |exact Or.inr (Or.inl rfl)|exact Or.inr (Or.inr rfl)) (by decide) (by decide)) (@gY _) (@gX _ _ _ (@eR _ _ _ _))))) (@fe _ _ (7) _ lM.nd rfl (Or.inl rfl) (by first |exact .inl rfl |exact .inr rfl |assumption)) (@eP _ _ _ _ _ (@fk _ _ (8) _ _ _ _ lM.nd rfl (Or.inl rfl) (@eS _ _ _ _ _ _ _ _ _ _ _ _ _ _ _ _ jc (hr.mono (by decide)) rfl fD.m fD.F.kp fD.b .nil (@fo _) (@eL _ _ _ _ _ (@pv _ 7 _ _ (by rfl) (by first |exact Or.inl rfl |exact Or.inr (Or.inl rfl)|exact Or.inr (Or.inr rfl)) (by decide) (by decide)) (@eL _ _ _ _ _ (@eR _ _ _ _) (@eM _) (by rfl)) (by rfl)) (by decide) (by rfl) (by rfl)) (by rfl) (by first |exact .inl rfl |exact .inr rfl |assumption)) (@eP _ _ _ _ _ (@fk _ _ (9) _ _ _ _ lM.nd rfl (Or.inl rfl) (@fU _ _ _ _ _ _ _ (@fM _) (@fN _ _ _ _ (@eL _ _ _ _ _ (@eS _ _ _ _ _ _ _ _ _ _ _ _ _ _ _ _ nS (hr.mono (by decide)) rfl jh.m jh.F.kp jh.b .nil (@fo _) (@eL _ _ _ _ _ (@pv _ 4 _ _ (by rfl) (by first |exact Or.inl rfl |exact Or.inr (Or.inl rfl)|exact Or.inr (Or.inr rfl)) (by decide) (by decide)) (@eL _ _ _ _ _ (@eY _ _ _ _ _ _ _ _ (@gg _) (@pv _ 8 _ _ (by rfl) (by first |exact Or.inl rfl |exact Or.inr (Or.inl rfl)|exact Or.inr (Or.inr rfl)) (by decide) (by decide)) (@eR _ _ _ _)) (@eM _) (by rfl)) (by rfl)) (by decide) (by rfl) (by rfl)) (@eL _ _ _ _ _ (@eS _ _ _ _ _ _ _ _ _ _ _ _ _ _ _ _ xu (hr.mono (by decide)) rfl jf.m jf.F.kp jf.b .nil (@fo _) (@eL _ _ _ _ _ (@eY _ _ _ _ _ _ _ _ (@gg _) (@pv _ 8 _ _ (by rfl) (by first |exact Or.inl rfl |exact Or.inr (Or.inl rfl)|exact Or.inr (Or.inr rfl)) (by decide) (by decide)) (@eR _ _ _ _)) (@eM _) (by rfl)) (by decide) (by rfl) (by rfl)) (@eM _) (by rfl)) (by rfl))) (@hZ _ _ _ _ _ _ _ _ _ (@oy _) rfl B.int boot_int (@eL _ _ _ _ _ (Bt (@mO _ _ _ _ _ (@eY _ _ _ _ _ _ _ _ (@gk _) (@pv _ 8 _ _ (by rfl) (by first |exact Or.inl rfl |exact Or.inr (Or.inl rfl)|exact Or.inr (Or.inr rfl)) (by decide) (by decide)) (@eR _ _ _ _)) (@eR _ _ _ _))) (@eM _) (by rfl)) (by decide) (by decide) (by rfl) (by rfl)) (λ_ _=>rfl)) (by rfl) (by first |exact .inl rfl |exact .inr rfl |assumption)) (@eP _ _ _ _ _ (@fk _ _ (9) _ _ _ _ lM.nd rfl (Or.inl rfl) (@eS _ _ _ _ _ _ _ _ _ _ _ _ _ _ _ _ BZ (hr.mono (by decide)) rfl lp.m lp.F.kp lp.b .nil (@fo _) (@eL _ _ _ _ _ (@pv _ 9 _ _ (by rfl) (by first |exact Or.inl rfl |exact Or.inr (Or.inl rfl)|exact Or.inr (Or.inr rfl)) (by decide) (by decide)) (@eL _ _ _ _ _ (@eS _ _ _ _ _ _ _ _ _ _ _ _ _ _ _ _ jc (hr.mono (by decide)) rfl fD.m fD.F.kp fD.b .nil (@fo _) (@eL _ _ _ _ _ (@pv _ 7 _ _ (by rfl) (by first |exact Or.inl rfl |exact Or.inr (Or.inl rfl)|exact Or.inr (Or.inr rfl)) (by decide) (by decide)) (@eL _ _ _ _ _ (@eR _ _ _ _) (@eM _) (by rfl)) (by rfl)) (by decide) (by rfl) (by rfl)) (@eL _ _ _ _ _ (@eS _ _ _ _ _ _ _ _ _ _ _ _ _ _ _ _ jc (hr.mono (by decide)) rfl fD.m fD.F.kp fD.b .nil (@fo _) (@eL _ _ _ _ _ (@pv _ 7 _ _ (by rfl) (by first |exact Or.inl rfl |exact Or.inr (Or.inl rfl)|exact Or.inr (Or.inr rfl)) (by decide) (by decide)) (@eL _ _ _ _ _ (@eR _ _ _ _) (@eM _) (by rfl)) (by rfl)) (by decide) (by rfl) (by rfl)) (@eM _) (by rfl)) (by rfl)) (by rfl)) (by decide) (by rfl) (by rfl)) (by rfl) (by first |exact .inl rfl |exact .inr rfl |assumption)) (@eP _ _ _ _ _ (@fk _ _ (10) _ _ _ _ lM.nd rfl (Or.inl rfl) (@eS _ _ _ _ _ _ _ _ _ _ _ _ _ _ _ _ nR (hr.mono (by decide)) rfl je.m je.F.kp je.b .nil (@fo _) (@eL _ _ _ _ _ (@pv _ 4 _ _ (by rfl) (by first |exact Or.inl rfl |exact Or.inr (Or.inl rfl)|exact Or.inr (Or.inr rfl)) (by decide) (by decide)) (@eL _ _ _ _ _ (@pv _ 9 _ _ (by rfl) (by first |exact Or.inl rfl |exact Or.inr (Or.inl rfl)|exact Or.inr (Or.inr rfl)) (by decide) (by decide)) (@eM _) (by rfl)) (by rfl)) (by decide) (by rfl) (by rfl)) (by rfl) (by first |exact .inl rfl |exact .inr rfl |assumption)) (@eP _ _ _ _ _ (@fF _ _ _ _ _ _ _ _ (PW.pt (@oY _ _ _ _ _ _ _ (fC (@rT _ _ _ _ _ (@pv _ 10 _ _ (by rfl) (by first |exact Or.inl rfl |exact Or.inr (Or.inl rfl)|exact Or.inr (Or.inr rfl)) (by decide) (by decide)))) (@mn _ _ _ _ (@fL _ _ _ _ _ _ _ _ (@tY _) (@eS _ _ _ _ _ _ _ _ _ _ _ _ _ _ _ _ i5 (hr.mono (by decide)) rfl fQ.m fQ.F.kp fQ.b .nil (@fo _) (@eL _ _ _ _ _ (@pv _ 5 _ _ (by rfl) (by first |exact Or.inl rfl |exact Or.inr (Or.inl rfl)|exact Or.inr (Or.inr rfl)) (by decide) (by decide)) (@eL _ _ _ _ _ (@pv _ 9 _ _ (by rfl) (by first |exact Or.inl rfl |exact Or.inr (Or.inl rfl)|exact Or.inr (Or.inr rfl)) (by decide) (by decide)) (@eM _) (by rfl)) (by rfl)) (by decide) (by rfl) (by rfl)) (@pv _ 10 _ _ (by rfl) (by first |exact Or.inl rfl |exact Or.inr (Or.inl rfl)|exact Or.inr (Or.inr rfl)) (by decide) (by decide)) (@gZ _ _ (by decide) (by decide)))))) (@eQ _ _ _ (@fb _ _ _ _ (@qX _ _ _ _))) (@fc _)) (@eQ _ _ _ (@fF _ _ _ _ _ _ _ _ (@fL _ _ _ _ _ _ _ _ (@FF _ hr.units) (@fN _ _ _ _ (@eL _ _ _ _ _ (@eS _ _ _ _ _ _ _ _ _ _ _ _ _ _ _ _ i5 (hr.mono (by decide)) rfl fQ.m fQ.F.kp fQ.b .nil (@fo _) (@eL _ _ _ _ _ (@pv _ 5 _ _ (by rfl) (by first |exact Or.inl rfl |exact Or.inr (Or.inl rfl)|exact Or.inr (Or.inr rfl)) (by decide) (by decide)) (@eL _ _ _ _ _ (@eU _ _ _ _) (@eM _) (by rfl)) (by rfl)) (by decide) (by rfl) (by rfl)) (@eL _ _ _ _ _ (@eS _ _ _ _ _ _ _ _ _ _ _ _ _ _ _ _ i5 (hr.mono (by decide)) rfl fQ.m fQ.F.kp fQ.b .nil (@fo _) (@eL _ _ _ _ _ (@pv _ 5 _ _ (by rfl) (by first |exact Or.inl rfl |exact Or.inr (Or.inl rfl)|exact Or.inr (Or.inr rfl)) (by decide) (by decide)) (@eL _ _ _ _ _ (@eU _ _ _ _) (@eM _) (by rfl)) (by rfl)) (by decide) (by rfl) (by rfl)) (@eM _) (by rfl)) (by rfl))) (@pv _ 6 _ _ (by rfl) (by first |exact Or.inl rfl |exact Or.inr (Or.inl rfl)|exact Or.inr (Or.inr rfl)) (by decide) (by decide)) (@gZ _ _ (by decide) (by decide))) (@eQ _ _ _ (@fb _ _ _ _ (@qX _ _ _ _))) (@fc _)))))))) (by intros;rfl)) (@eQ _ _ _ (@fb _ _ _ _ (@IV _ _ _ _ _ _ _ (@uP _ _ _ _ _ _ _ _ (@oi _) (@eS _ _ _ _ _ _ _ _ _ _ _ _ _ _ _ _ i5 (hr.mono (by decide)) rfl fQ.m fQ.F.kp fQ.b .nil (@fo _) (@eL _ _ _ _ _ (@pv _ 5 _ _ (by rfl) (by first |exact Or.inl rfl |exact Or.inr (Or.inl rfl)|exact Or.inr (Or.inr rfl)) (by decide) (by decide)) (@eL _ _ _ _ _ (@eU _ _ _ _) (@eM _) (by rfl)) (by rfl)) (by decide) (by rfl) (by rfl)) (@eU _ _ _ _) (@gZ _ _ (by decide) (by decide))) (@IQ _ _ _ _ _ (@uP _ _ _ _ _ _ _ _ (@oi _) (@eS _ _ _ _ _ _ _ _ _ _ _ _ _ _ _ _ i5 (hr.mono (by decide)) rfl fQ.m fQ.F.kp fQ.b .nil (@fo _) (@eL _ _ _ _ _ (@pv _ 5 _ _ (by rfl) (by first |exact Or.inl rfl |exact Or.inr (Or.inl rfl)|exact Or.inr (Or.inr rfl)) (by decide) (by decide)) (@eL _ _ _ _ _ (@eU _ _ _ _) (@eM _) (by rfl)) (by rfl)) (by decide) (by rfl) (by rfl)) (@eU _ _ _ _) (@gZ _ _ (by decide) (by decide)))))))))))))))),?_⟩
  refine⟨_,rfl,a,ns,40,rfl,hS,by decide,λc40=>⟨c40,0,rfl,by decide,by decide,λhd h0 h1=>?_⟩⟩
  refine⟨_,rfl,a,ns,41,8,12,rfl,hS,by decide,by decide,by decide,by decide,by decide,λp0 t0 us0 l H1 s1 np0 nt0 hp0 ht0 P0 il lm lu=>?_⟩
  have L1:Da K H1 (dL l) (.ref p0):=oo hp0 (P0.da ht0)
  have l12:l.2.length<=12:=by omega
  have lok:gI l:=gb.BF il (by omega)
  refine⟨_,rfl,_,rfl,a,ns,44,rfl,s1.seq hS,by decide,λc44=>⟨c44,0,rfl,by decide,by decide,λnt n0 n1=>?_⟩⟩
  refine⟨.ref p0,l,nt,4,rfl,L1,lok,gb.ne il,n0,by decide,by decide,λpt ts H2 s2 npt hpt tne tl tok=>?_⟩
  dsimp only[lI]
  have T2:Da K H2 (dI ts) (.ref pt):=iJ.mpr ⟨pt,rfl,SqL.of hpt⟩
  have L2':=Da.same s2 L1
  have it:isT l ts:=⟨tne,tok⟩
  have oN:OkN ts:=isT.okN il it
  refine⟨by show 2<=sizeLine;decide,λq0 nq0=>⟨_,rfl,by show 2<=sizeLine;decide,λq1 nq1=>⟨_,rfl,_,rfl,by show 2<=sizeLine;decide,λq2 nq2=>⟨_,rfl,_,rfl,by show 2<=sizeLine;decide,λq3 nq3=>⟨by show 4<=sizeLine;decide,λqo nqo=>?_⟩⟩⟩⟩⟩
  have u0:=eN (o:=.lst [V.non,V.non]) nq0
  have u1:=eN (o:=.lst [V.ref p0,V.non]) nq1
  have u2:=eN (o:=.lst [V.ref p0,V.ref pt]) nq2
  have u3:=eN (o:=.lst [V.ref p0,V.ref pt]) nq3
  have uo:=eN (o:=.lst [V.ref q0,V.ref q1,V.ref q2,V.ref q3]) nqo
  have e0:=(u1.trans (u2.trans (u3.trans uo))) _ _ (eO (a:=q0) (H:=H2) (o:=.lst [V.non,V.non]))
  have e1:=(u2.trans (u3.trans uo)) _ _ (eO (a:=q1) (o:=.lst [V.ref p0,V.non]))
  have e2:=(u3.trans uo) _ _ (eO (a:=q2) (o:=.lst [V.ref p0,V.ref pt]))
  have e3:=uo _ _ (eO (a:=q3) (o:=.lst [V.ref p0,V.ref pt]))
  have S3:=s1.trans (s2.trans (u0.trans (u1.trans (u2.trans (u3.trans uo)))))
  have L3:=Da.same (u0.trans (u1.trans (u2.trans (u3.trans uo)))) L2'
  have T3:=Da.same (u0.trans (u1.trans (u2.trans (u3.trans uo)))) T2
  refine⟨_,rfl,_,_,rfl,rfl,(by show(0:Int)<4;decide),qo,[V.ref q0,V.ref q1,V.ref q2,V.ref q3],hd%4,?_⟩
  obtain⟨sa,S,hat,SA3,dS,sc⟩:∃ (sa:Addr) (S:DS),atI [V.ref q0,V.ref q1,V.ref q2,V.ref q3] (hd%4)=some (.ref sa)/\StA K (upd (upd (upd (upd (upd H2 q0 (.lst [V.non,V.non])) q1 (.lst [V.ref p0,V.non])) q2 (.lst [V.ref p0,V.ref pt])) q3 (.lst [V.ref p0,V.ref pt])) qo (.lst [V.ref q0,V.ref q1,V.ref q2,V.ref q3])) sa S/\DOk S/\(S=(none,none)\/S=(some l,none)\/S=(some l,some ts)):=by
   have d0:DOk (none,none):=⟨λl h=>(by cases h),λl h=>(by cases h),λt h=>(by cases h)⟩
   have d1:DOk (some l,none):=⟨λl h=>(by cases h;exact il),λl h=>(by cases h;omega),λt h=>(by cases h)⟩
   have d2:DOk (some l,some ts):=⟨λl h=>(by cases h;exact il),λl h=>(by cases h;omega),λt h=>(by cases h;exact⟨l,rfl,it⟩)⟩
   have c:hd%4=0\/hd%4=1\/hd%4=2\/hd%4=3:=by omega
   rcases c with c |c |c |c
   ·rw[c];exact⟨q0,(none,none),rfl,⟨_,_,e0,rfl,rfl⟩,d0,.inl rfl⟩
   ·rw[c];exact⟨q1,(some l,none),rfl,⟨_,_,e1,L3,rfl⟩,d1,.inr (.inl rfl)⟩
   ·rw[c];exact⟨q2,(some l,some ts),rfl,⟨_,_,e2,L3,T3⟩,d2,.inr (.inr rfl)⟩
   ·rw[c];exact⟨q3,(some l,some ts),rfl,⟨_,_,e3,L3,T3⟩,d2,.inr (.inr rfl)⟩
  refine⟨.ref sa,rfl,rfl,SqL.of eO,hat,?_⟩
  generalize upd (upd (upd (upd (upd H2 q0 _) q1 _) q2 _) q3 _) qo _=H3 at S3 L3 T3 SA3 ⊢
  clear e0 e1 e2 e3 u0 u1 u2 u3 uo nq0 nq1 nq2 nq3 nqo L2' T2 L1 hat
  dsimp only[lI]
  refine λd dx nd ndx ne=>⟨d,dx,rfl,eO,rfl,?_⟩
  have s4:eW H3 _:=made (C:=C) (fs:=[(Str.ofString "line",V.non),(Str.ofString "train",V.non)]) nd ndx
  have hd4:=eO (H:=upd (upd H3 dx (.own d)) d (.ins C dx [])) (a:=d) (o:=.ins C dx [(Str.ofString "line",V.non),(Str.ofString "train",V.non)])
  generalize upd (upd (upd H3 dx _) d _) d _=H4 at s4 hd4 ⊢
  obtain⟨p,hp⟩:∃ p:Addr->Prop,p = λb=>b=d:=⟨_,rfl⟩
  have pn:∀ b,p b->H3 b=none:=λb hb=>by rw[hp]at hb;rw[show b=d from hb];exact nd
  have sh:eW H3 (ip p H4):=λb o e=>by rw[iX (λz=>by rw[pn b z]at e;cases e)];exact s4 _ _ e
  have D4:Dsk K C p H4 d (none,none):=⟨⟨dx,_,_,hd4,rfl,rfl⟩,by rw[hp],λb hb=>by rw[hp]at hb;rw[show b=d from hb];exact .inl ⟨_,_,_,hd4⟩⟩
  have SA4:=SA3.same sh
  have L4:=Da.same sh L3
  have T4:=Da.same sh T3
  have hS4:SqL K (ip p H4) a (ns.map V.int):=(S3.trans sh).seq hS
  clear SA3 L3 T3 S3 s1 s2 hS pn nd ndx ne hp0 ht0 P0 hpt
  dsimp only[lI]
  obtain⟨v,u,hsa,hv,hu⟩:=id SA4
  have d00:DOk (none,none):=⟨λl h=>(by cases h),λl h=>(by cases h),λt h=>(by cases h)⟩
  have hsz:(txL l).length<=2000:=(xC (gb.small il)).2
  refine qF (λσ G=>σ = [some (.ref a),some (.int hd),some (.ref p0),some (.ref pt),some (.ref sa),some (.ref d),none,none,none,none,none]/\Dsk K C p G d (S.1,none)/\eW (ip p H4) (ip p G)) (λnx kn=>?_) ?_
  ·refine⟨_,rfl,sa,_,_,v,rfl,rfl,SqL.of (fZ _ _ hsa),rfl,_,rfl,fG (λh=>?_) (λh=>kn _ _ ⟨rfl,?_,eW.refl _⟩)⟩
   ·have hl:S.1=some l:=by
     rcases sc with rfl |rfl |rfl
     ·exact absurd (show v = .non from hv) (by simpa using h)
     ·rfl
     ·rfl
    refine⟨_,rfl,d,dx,_,rfl,hd4,by rfl,_,rfl,.ref p0,l,rfl,Da.same fZ L4,gb.small il,λH5 s5=>⟨Str.ofString "line ",txL l,rfl,rfl,hV (by show 5+_<=_;omega),?_⟩⟩
    refine Ac (c7:=c7) DD (Ff (gb.small il)) (by omega) il D4 d00 H5 _ _ s5 ⟨λa' ha H6 o6 D6=>?_,λj hj=>by cases hj⟩
    refine kn _ _ ⟨rfl,by rw[hl];exact D6,(h8 s5).trans (o6.hid D4.pd)⟩
   ·rcases sc with rfl |rfl |rfl
    ·exact D4
    ·exact absurd (show(v = .non) from by simpa using h) (by obtain⟨_,_,e,_⟩:=i3 (show Da K (ip p H4) (dL l) v from hv);rw[e];simp)
    ·exact absurd (show(v = .non) from by simpa using h) (by obtain⟨_,_,e,_⟩:=i3 (show Da K (ip p H4) (dL l) v from hv);rw[e];simp)
  rintro σ G ⟨rfl,DG,sG⟩
  refine qF (λσ G=>σ = [some (.ref a),some (.int hd),some (.ref p0),some (.ref pt),some (.ref sa),some (.ref d),none,none,none,none,none]/\Dsk K C p G d S/\eW (ip p H4) (ip p G)) (λnx kn=>?_) ?_
  ·refine⟨_,rfl,sa,_,_,u,rfl,rfl,SqL.of (fZ _ _ (sG _ _ hsa)),rfl,_,rfl,fG (λh=>?_) (λh=>kn _ _ ⟨rfl,?_,sG⟩)⟩
   ·rcases sc with rfl |rfl |rfl
    ·exact absurd (show u = .non from hu) (by simpa using h)
    ·exact absurd (show u = .non from hu) (by simpa using h)
    obtain⟨dx',v',u',hd',_,_⟩:=DG.at_
    have tl:=(Fe oN tne).2
    refine⟨_,rfl,d,dx',_,rfl,hd',by rfl,_,rfl,.ref pt,ts,rfl,Da.same (sG.trans fZ) T4,oN,λH5 s5=>⟨Str.ofString "train ",txT ts,rfl,rfl,hV (by show 6+_<=_;omega),?_⟩⟩
    refine DI (c7:=c7) (S:=(some l,none)) DD rfl oN it DG ⟨λl h=>(by cases h;exact il),λl h=>(by cases h;omega),λt h=>(by cases h)⟩ H5 _ _ s5 ⟨λa' ha H6 o6 D6=>?_,λj hj=>by cases hj⟩
    exact kn _ _ ⟨rfl,D6,sG.trans ((h8 s5).trans (o6.hid DG.pd))⟩
   ·rcases sc with rfl |rfl |rfl
    ·exact DG
    ·exact DG
    ·exact absurd (show(u = .non) from by simpa using h) (by obtain⟨_,e,_⟩:=iJ.mp (show Da K (ip p H4) (dI ts) u from hu);rw[e];simp)
  clear DG sG G D4 d00
  rintro σ G ⟨rfl,DG,sG⟩
  have R1:∀ {G:Hp},Dsk K C p G d S->uf P w K mg base kr ka c7 C [c1,c3,c4,c7,c6,c2,c5] G d p (Str.ofString "here") (pM S):=λh=>Ab (by decide +kernel) (by decide +kernel) DD.here h dS
  have R2:∀ {G:Hp},Dsk K C p G d S->uf P w K mg base kr ka c7 C [c1,c3,c4,c7,c6,c2,c5] G d p (Str.ofString "moves") (lT S):=λh=>Ab (by decide +kernel) (by decide +kernel) DD.moves h dS
  obtain⟨k1,k2⟩:=Hw S
  obtain⟨m1,m2⟩:=FQ S
  refine⟨_,rfl,d,_,S,p,pM S,rfl,DG,R1 DG,λj e=>⟨k2 j e,k1⟩,λH5 o5 D5=>?_⟩
  rw[k1]at D5
  refine⟨_,rfl,d,_,S,p,lT S,rfl,D5,R2 D5,λj e=>⟨m2 j e,m1⟩,λH6 o6 D6=>?_⟩
  rw[m1]at D6
  refine⟨by show 2<=sizeLine;decide,λps nps=>?_⟩
  obtain⟨A1,hA1⟩:∃ A,A=txA (pM S).1:=⟨_,rfl⟩
  obtain⟨A2,hA2⟩:∃ A,A=txA (lT S).1:=⟨_,rfl⟩
  rw[<-hA1,<-hA2]
  have s6:=sG.trans ((o5.hid DG.pd).trans (o6.hid D5.pd))
  have npp:¬p ps:=λz=>by
   rcases D6.li _ z with⟨_,_,_,e⟩|⟨_,e⟩<;>rw[nps]at e<;>cases e
  have u7:=eN (o:=.lst [.str A1,.str A2]) nps
  have hps:ip p (upd H6 ps (.lst [.str A1,.str A2])) ps=some (.lst [.str A1,.str A2]):=by rw[iX npp,eO]
  have D7:=D6.same u7
  have s7:=s6.trans (h8 (p:=p) u7)
  generalize upd H6 ps _=H7 at D7 s7 hps ⊢
  have hS7:=s7.seq hS4
  have SA7:=SA4.same s7
  clear sG s6 DG D5 D6 o5 o6 u7 npp nps hS4 SA4 L4 T4 hsa hv hu s4 sh hd4
  dsimp only[lI]
  have dN:∀ l',S.1=some l'->l'.2.length<=12:=λl' h=>by
   rcases sc with rfl |rfl |rfl
   ·cases h
   ·cases h;exact l12
   ·cases h;exact l12
  have oA1:PyData.strOk A1=true:=by
   rw[hA1]
   rcases sc with rfl |rfl |rfl
   ·show PyData.strOk (txA (.error 0))=true;decide +kernel
   ·show PyData.strOk (txA (.error 5))=true;decide +kernel
   ·show PyData.strOk (txT ts)=true
    exact yD λw hw=>by obtain⟨e,he,rfl⟩:=aA.mp hw;exact Km (oN.2 e he).1 (oN.2 e he).2
  have oA2:PyData.strOk A2=true:=by
   rw[hA2]
   rcases sc with rfl |rfl |rfl
   ·show PyData.strOk (txA (.error 0))=true;decide +kernel
   ·show PyData.strOk (txA (.error 5))=true;decide +kernel
   ·show PyData.strOk (uU ((mvs l ts).map (·.1)))=true
    unfold uU
    refine vc (yD λw hw=>?_) (by split<;>decide +kernel)
    obtain⟨k,hk,rfl⟩:=aA.mp hw
    obtain⟨m,hm,rfl⟩:=aA.mp hk
    obtain⟨w1,w2,w3⟩:=xV lok hm
    unfold txM
    exact vc (vc (by rcases w1 with e |e<;>rw[e]<;>decide +kernel) (by decide +kernel)) (Km w2 (by have:=il.2.1;omega))
  refine⟨by show 2<=sizeLine;decide,λpl npl=>?_⟩
  have u1:=eN (o:=.lst [.int 0,.int 7]) npl
  refine⟨_,rfl,30,rfl,a,_,rfl,(fZ.trans u1).seq hS7,λpq npq=>?_⟩
  rw[AY _ (by decide)]
  have u2:=u1.trans (eN (o:=.lst ((ns.map V.int).take (30:Int).toNat)) npq)
  refine⟨pl,pq,_,_,rfl,rfl,(eN (o:=.lst ((ns.map V.int).take (30:Int).toNat)) npq) _ _ eO,eO,?_,λpc npc=>?_⟩
  ·refine hV ?_
   have:((ns.map V.int).take (30:Int).toNat).length<=30:=by rw[aI];exact Nat.min_le_left _ _
   show 2+((ns.map V.int).take (30:Int).toNat).length<=500000
   omega
  have ec:([V.int 0,V.int 7]++(ns.map V.int).take (30:Int).toNat)=([0,7]++ns.take 30).map V.int:=by rw[aC,cV];rfl
  rw[ec]
  generalize [0,7]++ns.take 30=ms
  have u3:=u2.trans (eN (o:=.lst (ms.map V.int)) npc)
  have npp:¬p pc:=λz=>by
   rcases LI.same u2 D7.li _ z with⟨_,_,_,e⟩|⟨_,e⟩<;>rw[npc]at e<;>cases e
  have hpc:ip p (upd (upd (upd H7 pl (.lst [.int 0,.int 7])) pq (.lst ((ns.map V.int).take (30:Int).toNat))) pc (.lst (ms.map V.int))) pc=some (.lst (ms.map V.int)):=by rw[iX npp,eO]
  have D8:=D7.same u3
  have s8:=h8 (p:=p) u3
  generalize upd (upd (upd H7 pl _) pq _) pc _=H8 at hpc D8 s8 ⊢
  have SA8:=SA7.same s8
  have Sb:=s8 _ _ hps
  clear u1 u2 u3 npl npq npc npp D7 s7 SA7 hS7 hps ec
  refine⟨pc,rfl,⟨_,SqL.of (fZ _ _ hpc)⟩,Ek (K:=K) (a:=pc) (xs:=ms.map V.int) (λi σ G=>∃ (x7 x8 x9 x10:Option V),σ = [some (.ref a),some (.int hd),some (.ref p0),some (.ref pt),some (.ref sa),some (.ref d),some (.ref ps),x7,x8,x9,x10]/\Dsk K C p G d S/\eW (ip p H8) (ip p G))
   ⟨none,none,none,none,rfl,D8,eW.refl _⟩ (λi σ G _ ⟨_,_,_,_,_,_,s⟩=>SqL.of ((eW.trans s fZ) _ _ hpc)) ?_ ?_⟩
  ·rintro i y σ G N R Bq kN kR hi ⟨y7,y8,y9,y10,rfl,DG,sG⟩
   rw[ah]at hi
   obtain⟨c,hc,rfl⟩:=cH.mp hi
   have SAG:=SA8.same (sG.trans fZ)
   refine⟨_,rfl,c,0,rfl,by decide,by decide,λn n0 n1=>?_⟩
   refine⟨_,rfl,_,rfl,_,_,rfl,rfl,⟨by decide,by decide⟩,sa,n/4,S,rfl,SAG,dS,dN,by omega,λy1 G1 t1 hy1=>?_⟩
   refine⟨_,rfl,_,_,rfl,rfl,⟨by decide,by decide⟩,n/4,rfl,λy2 G2 t2 hy2=>⟨by show 2<=sizeLine;decide,λpr npr=>?_⟩⟩
   obtain⟨y,hy,hat⟩:∃ y:Str,y.length<=250/\atI [V.str y1,.str y2] (if decide (n%4=0)=true then 1 else 0)=some (.str y):=by
    by_cases q:n%4=0
    ·rw[av (by simpa using q)];exact⟨y2,by omega,rfl⟩
    ·rw[ak (by simpa using q)];exact⟨y1,hy1,rfl⟩
   refine⟨_,rfl,_,_,rfl,rfl,(by show(0:Int)<4;decide),_,_,rfl,rfl,.inr ⟨_,rfl,pr,_,_,.str y,rfl,rfl,SqL.of eO,hat,?_⟩⟩
   have t3:=t1.trans (t2.trans (eN (o:=.lst [.str y1,.str y2]) npr))
   generalize upd G2 pr _=G3 at t3 ⊢
   refine⟨_,rfl,_,rfl,c,1,rfl,by decide,by decide,λb1 b10 b11=>⟨_,rfl,c,2,rfl,by decide,by decide,λb2 b20 b21=>⟨y,b1,b2,rfl,by omega,b10,b20,λr G4 t4 hr4=>?_⟩⟩⟩
   have t4:=t3.trans t4
   refine⟨_,rfl,_,rfl,sa,r,S,rfl,SAG.same t4,dS,by omega,λG5 t5=>?_⟩
   have t5:=t4.trans t5
   have D5:=DG.same t5
   have s5:=sG.trans (h8 (p:=p) t5)
   clear t1 t2 t3 t4 npr hat
   dsimp only[lI]
   refine qF (λσ G'=>∃ x10,σ = [some (.ref a),some (.int hd),some (.ref p0),some (.ref pt),some (.ref sa),some (.ref d),some (.ref ps),some (.int c),some (.int n),some (.str r),some x10]/\Dsk K C p G' d S/\eW (ip p H8) (ip p G')) (λnx kn=>?_) ?_
   ·cases hrf:oX S r with
    |none=>exact⟨_,rfl,_,rfl,kJ (kJ (kn _ _ ⟨_,rfl,D5,s5⟩))⟩
    |some j=>
     refine⟨_,rfl,_,rfl,ib ⟨_,rfl,_,rfl,d,r,S,p,(.error j,S),rfl,D5,Ci DD hrf (by omega) D5 dS,λj' e=>⟨by cases e;exact IH hrf,rfl⟩,λG6 o6 D6=>?_⟩⟩
     refine⟨_,rfl,rfl,_,rfl,fG (λh=>absurd h (by simp[opA])) (λ_=>kn _ _ ⟨_,rfl,D6,s5.trans (o6.hid D5.pd)⟩)⟩
   rintro σ G' ⟨x10,rfl,D',s'⟩
   refine⟨_,rfl,d,_,S,p,pM S,rfl,D',R1 D',λj e=>⟨k2 j e,k1⟩,λH9 o9 D9=>?_⟩
   rw[k1]at D9
   refine⟨_,rfl,d,_,S,p,lT S,rfl,D9,R2 D9,λj e=>⟨m2 j e,m1⟩,λH10 o10 D10=>?_⟩
   rw[m1]at D10
   refine⟨by show 2<=sizeLine;decide,λpn npn=>?_⟩
   rw[<-hA1,<-hA2]
   have s10:=s'.trans ((o9.hid D'.pd).trans (o10.hid D9.pd))
   have u:=eN (o:=.lst [.str A1,.str A2]) npn
   have dd:∀ {G:Hp}{q:Addr},SqL K G q [.str A1,.str A2]->Da K G (.list [.str A1,.str A2]) (.ref q):=λh=>iY.mpr ⟨_,_,rfl,h,Dgs.two (nN.mpr rfl) (nN.mpr rfl)⟩
   refine⟨_,rfl,.list [.str A1,.str A2],.list [.str A1,.str A2],dd (SqL.of eO),dd (SqL.of ((s10.trans (h8 (p:=p) u)).trans fZ _ _ Sb)),HW oA1 oA2,HW oA1 oA2,?_⟩
   rw[Lc]
   exact⟨_,rfl,kJ (kN _ _ ⟨_,_,_,_,rfl,D10.same u,s10.trans (h8 u)⟩)⟩
  ·rintro σ G ⟨y7,y8,y9,y10,rfl,DG,sG⟩
   refine⟨_,rfl,d,_,S,p,(.error 0,S),rfl,DG,Ci DD (r0 S) (by decide +kernel) DG dS,λj e=>⟨by cases e;decide,rfl⟩,λG6 o6 D6=>?_⟩
   refine⟨rfl,_,rfl,fG (λ_=>?_) (λh=>absurd (show decide (V.str (txA (.error 0))=V.str (Str.ofString "!line"))=true by rw[tA0];simp) h)⟩
   have D6:Dsk K C p G6 d S:=D6
   have e1:Str.ofString "line pieces 1" = Str.ofString "line " ++ Str.ofString "pieces 1" :=by decide +kernel
   have i1:gb (1,[]):=by unfold gb;exact⟨by decide,by decide,by decide,λp hp=>(nomatch hp),dh⟩
   have RL:=Ac (c7:=c7) (z:=Str.ofString "pieces 1") (l:=(1,[])) DD (by decide +kernel) (by decide +kernel) i1 D6 dS
   rw[<-e1]at RL
   refine⟨_,rfl,d,_,S,p,(.ok "ok",(some (1,[]),none)),rfl,D6,RL,λj e=>(by cases e),λG7 o7 D7=>⟨rfl,?_⟩⟩
   have:decide (V.str (txA (.ok "ok"))=V.str (Str.ofString "ok"))=true:=by decide +kernel
   show Q (.bl (decide (V.str (txA (.ok "ok"))=V.str (Str.ofString "ok")))) _
   rw[this]
   exact k _
end
noncomputable def fdo {K:PySem.W.Frag}{mg:Str->Option Value}{x:Str}{st:Stmt}{ps:List Str}{f:Addr}{fd:FuncData}(_:Fn K mg x st ps f fd):FuncData:=fd
theorem HZ {k:Str}{f:Addr}{r:List (Str×Addr)}(h:k≠x):jo ((k,f)::r) x=jo r x:=by
 unfold jo;rw[List.find?_cons_of_neg (by simpa using h)]
theorem Ia {f:Addr}{r:List (Str×Addr)} :jo ((x,f)::r) x=some f:=by
 unfold jo;rw[List.find?_cons_of_pos (by simp)];rfl
theorem F7 {x:Str} :∀ {r:List (Str×Addr)},x∉r.map (·.1)->jo r x=none
 |[],_=>rfl
 |(k,f)::r,h=>by
  rw[HZ (λz=>h (by rw[aN];exact z ▸ au))]
  exact F7 λz=>h (aq _ z)
theorem GA {P:Program}{w:World}{base:Heap}{C:Addr}{a1 a2 a3 a4 a5 a6 a7 b1 b2 b3 b4 b5 b6:Addr}
  (h1:FV P w K mg base a1 (lE K C cs 2100 oq)) (h2:FV P w K mg base a2 (lE K C cs 800 kc)) (h3:FV P w K mg base a3 (lE K C cs 800 (dGo (Str.ofString "on")))) (h4:FV P w K mg base a4 (lE K C cs 800 (dGo (Str.ofString "back"))))
  (g5:FV P w K mg base a5 (pF K C cs 800 gS)) (g6:FV P w K mg base a6 (pF K C cs 800 gS)) (g7:FV P w K mg base a7 (pF K C cs 800 km))
  (h5:FV P w K mg base b1 (nY K C cs tG)) (h6:FV P w K mg base b3 (nY K C cs pM)) (h7:FV P w K mg base b2 (nY K C cs lT))
  (t4:FV P w K mg base b4 (pG K C cs (kb true))) (t5:FV P w K mg base b5 (pG K C cs (kb true))) (t6:FV P w K mg base b6 (pG K C cs (kb false))):
  yq P w K mg base [(Str.ofString "line",a1),(Str.ofString "train",a2),(Str.ofString "on",a3),(Str.ofString "back",a4),(Str.ofString "least",a5),(Str.ofString "fewest",a6),(Str.ofString "sides",a7)]
   [(Str.ofString "round",b1),(Str.ofString "moves",b2),(Str.ofString "here",b3),(Str.ofString "turn",b4),(Str.ofString "standings",b5),(Str.ofString "longest",b6)] C cs:=by
 refine⟨⟨a1,?_,h1⟩,⟨a2,?_,h2⟩,⟨a3,?_,h3⟩,⟨a4,?_,h4⟩,⟨a5,?_,g5⟩,⟨a6,?_,g6⟩,⟨a7,?_,g7⟩,⟨b1,?_,h5⟩,⟨b3,?_,h6⟩,⟨b2,?_,h7⟩,⟨b4,?_,t4⟩,⟨b5,?_,t5⟩,⟨b6,?_,t6⟩,λx hx=>F7 ?_,λx hx=>F7 ?_⟩
 iterate 13 (first |exact Ia |(repeat (first |exact Ia |rw[HZ (by decide +kernel)])))
 ·exact λz=>hx (by unfold krw;simpa using z)
 ·exact λz=>hx (by unfold kaw;simpa using z)
structure En (K:PySem.W.Frag)(x:Str)(st:Stmt)(f:Addr)(oc:Value)(od:Option Addr)(osl:Array (Option Value))(kV doc pm:Value)(an:Option Addr)(cdv ct:Value):Prop where
 a:PySem.W.nsIn K mainGlobals x=some (some (.ref f))
 l:K.lookup f=some ⟨oc,od,.func (PySem.W.fnOf x x (lC st) (j4 st) (eT st) .none kV doc pm an cdv ct),osl⟩
 c:PySem.W.codeIn K cdv x=true
 k:PySem.W.keepIn K (.ref f)=true
theorem fH {h:Heap}{st:Stmt}{ps:List Str}{f:Addr}{oc:Value}{od an:Option Addr}{osl:Array (Option Value)}{kV doc pm cdv ct:Value}(X:K.In h)(G:h.Ns mainGlobals mg)(e:En K x st f oc od osl kV doc pm an cdv ct)
  (hb:∀ (kV doc pm:Value) (an:Option Addr) (cdv ct:Value) (us:List Value),us.length=ps.length->bindArgs (PySem.W.fnOf x x (lC st) (j4 st) (eT st) .none kV doc pm an cdv ct) ⟨us,[]⟩=pure (ps.zip us)):
  Fn K mg x st ps f (PySem.W.fnOf x x (lC st) (j4 st) (eT st) .none kV doc pm an cdv ct):=⟨tw (st:=st) e.l e.c e.k,cx X G e.a,(tw (st:=st) e.l e.c e.k).binds (ps:=ps) hb⟩
variable {F:FuncData}
theorem bn1 {p:List Str}(k:∀ a0,bindArgs F ⟨[a0],[]⟩=pure (p.zip [a0]))(us:List Value)(h:us.length=1):bindArgs F ⟨us,[]⟩=pure (p.zip us):=match us,h with |[a0],_=>k a0
theorem bn2 {p:List Str}(k:∀ a0 a1,bindArgs F ⟨[a0,a1],[]⟩=pure (p.zip [a0,a1]))(us:List Value)(h:us.length=2):bindArgs F ⟨us,[]⟩=pure (p.zip us):=match us,h with |[a0,a1],_=>k a0 a1
theorem bn3 {p:List Str}(k:∀ a0 a1 a2,bindArgs F ⟨[a0,a1,a2],[]⟩=pure (p.zip [a0,a1,a2]))(us:List Value)(h:us.length=3):bindArgs F ⟨us,[]⟩=pure (p.zip us):=match us,h with |[a0,a1,a2],_=>k a0 a1 a2
theorem bn4 {p:List Str}(k:∀ a0 a1 a2 a3,bindArgs F ⟨[a0,a1,a2,a3],[]⟩=pure (p.zip [a0,a1,a2,a3]))(us:List Value)(h:us.length=4):bindArgs F ⟨us,[]⟩=pure (p.zip us):=match us,h with |[a0,a1,a2,a3],_=>k a0 a1 a2 a3
theorem all_mk {l:PySem.W.OpenLaw}{w:World}{h:Heap}{fa f6 f7 f8 f9 f10 f11 f12 f13 f14 f15 f16 f17 f18 f19 f20 f21 f22 f23 f24 f25 f26 f27 f28 f29 f30 f31 f32 f33 f34 f35 f36 f37 f38 f39 f40 f41 f42 f43 f44 f45 f46 f47 f48 f49 f50 f51 f52 f53 f54 f55 f56 f57 f58 f59 f60 f61 f62 f63 f64 f65 f66 f67 f68 f69 f70:Addr}(X:K.In h)(G:h.Ns mainGlobals mg)(hfa:mg "law" = some (.ref fa))
  {od1 an1 od2 an2 od3 an3 od4 an4 od5 an5 od6 an6 od7 an7 od8 an8 od9 an9 Pd W7 Pc W6 Pb W5 Pa W4 O9 W2 O8 W0 O7 WZ O6 WY O5 WX O4 WW O3 WV O2 WU O1 WT O0 WS OZ WR OY WQ OX WO OW WN OV WM OU WL OT WK OS WJ OR WI OQ WH OP WG OO WE ON WD OM WC OL WB OK WA OI Wz OH Wy OG Wx OF Ww OE Wv OD Wu OC Wt OB Ws OA Wr Oz Wq Oy Wo Ox Wn Ow Wm Ov Wl Ou Wk Ot Wj Oq Wi Oo Wh Om Wg Ol Wf Oj We Oi Wd Oh Wc Og Wb Of Wa Oe V9 Od V8 Oc V7 Ob V6 Oa V5 N9 Lm:Option Addr}{sl1 sl2 sl3 sl4 sl5 sl6 sl7 sl8 sl9 MR MQ MP MO MN MM ML MK MJ MI MH MG MF ME MD MC MB MA Mz My Mx Mw Mu Mt Ms Mr Mq Mp Mo Mn Mm Mj Mi Mh Mg Mf Me Md Mc Mb L9 L8 L7 L6 L5 LZ LY LX LW LV LU LS LR LQ LP LO LN LM LL LK LJ:Array (Option Value)}{oc1 kV1 dc1 pm1 cd1 ct1 oc2 kV2 dc2 pm2 cd2 ct2 oc3 kV3 dc3 pm3 cd3 ct3 oc4 kV4 dc4 pm4 cd4 ct4 oc5 kV5 dc5 pm5 cd5 ct5 oc6 kV6 dc6 pm6 cd6 ct6 oc7 kV7 dc7 pm7 cd7 ct7 oc8 kV8 dc8 pm8 cd8 ct8 oc9 kV9 dc9 pm9 cd9 ct9 QB R4 TR N7 V3 U0 QA R3 TQ N6 V2 UZ Qz R0 TN N5 V1 UY Qy RZ TM N4 V0 UX Qx RY TK N3 VZ UW Qw RX TJ N2 VY UU Qv RW TH N1 VX UT Qu RV TC N0 VW US Qt RU TB NZ VU UR Qs RT Tz NY VS UQ Qr RS Tx NW VR UP Qq RQ Tw NV VQ UO Qp RP Tv NU VP UN Qo RO Tu NT VO UM Qn RN Tt NS VN UL Qm RM Ts NR VM UK Ql RK Tr NQ VJ UJ Qk RJ Tq NP VI UI Qj RI Tp NO VH UH Qi RH To NM VG UG Qh RG Tn NL VF UE Qg RF Tj NK VD UD Qf RE Ti NJ VC UC Qe RD Th NI VB UB Qd RC Tg NH VA UA Qc RB Tf NG Vz Uz Qb RA Te NF Vy Uy Qa Rz Td ND Vx Ux PZ Ry Tc NC Vw Uw PY Rx Tb NB Vv Uv PX Rw Ta NA Vu Uu PV Rv S9 Nz Vt Ut PU Ru S8 Ny Vs Us PR Rt S0 Nx Vr Ur PQ Rr SY Nw Vq Uq PM Rq SX Nv Vp Up PL Rp SW Nu Vo Uo PK Ro SV Nt Vn Um PJ Rn SU Nr Vm Ul PH Rm SS Nq Vl Uk PD Rl SR Np Vk Uj PB Rk SQ Nn Vj Ui Pz Rj SO Nm Vi Uh Py Ri SN Nl Vh Ug Px Rh SM Nk Vg Ue Pw Rg SJ Nj Vf Ud Pu Rf SI Ni Ve Uc Pt Rc SH Nh Vd Ub Pr Rb SG Ng Vc Ua Pq Ra SF Nf Vb T9 Pp Q9 SE Nd Va T8 Po Q8 SD Nc U9 T7 Pn Q7 SA Nb U8 T6 Pm Q6 Sz Na U7 T5 Pl Q5 Sy M9 U6 T1 Pk Q4 Sx M8 U5 TZ Pj Q3 Sw M7 U4 TY Ph Q1 Sv M6 U3 TX Pg Q0 Su M5 U2 TV Pf QZ Ss M4 U1 TU Pe KP Le Ku Li Lh:Value}
  (e1:En K "other_end" kh f1 oc1 od1 sl1 kV1 dc1 pm1 an1 cd1 ct1)
  (e2:En K "piece_of" j8 f2 oc2 od2 sl2 kV2 dc2 pm2 an2 cd2 ct2)
  (e3:En K "is_end" n6 f3 oc3 od3 sl3 kV3 dc3 pm3 an3 cd3 ct3)
  (e4:En K "check_line" mi f4 oc4 od4 sl4 kV4 dc4 pm4 an4 cd4 ct4)
  (e5:En K "check_joint" lB f5 oc5 od5 sl5 kV5 dc5 pm5 an5 cd5 ct5)
  (e6:En K "joined" mL f6 oc6 od6 sl6 kV6 dc6 pm6 an6 cd6 ct6)
  (e7:En K "check_train" ja f7 oc7 od7 sl7 kV7 dc7 pm7 an7 cd7 ct7)
  (e8:En K "turned" pT f8 oc8 od8 sl8 kV8 dc8 pm8 an8 cd8 ct8)
  (e9:En K "free_ends" kj f9 oc9 od9 sl9 kV9 dc9 pm9 an9 cd9 ct9)
  (e10:En K "moves_of" mK f10 QB Pd MR R4 TR N7 W7 V3 U0)
  (e11:En K "done" vk f11 QA Pc MQ R3 TQ N6 W6 V2 UZ)
  (e12:En K "check_goal" kH f12 Qz Pb MP R0 TN N5 W5 V1 UY)
  (e13:En K "come_to" xN f13 Qy Pa MO RZ TM N4 W4 V0 UX)
  (e14:En K "least" uJ f14 Qx O9 MN RY TK N3 W2 VZ UW)
  (e15:En K "fewest" rR f15 Qw O8 MM RX TJ N2 W0 VY UU)
  (e16:En K "longest" xK f16 Qv O7 ML RW TH N1 WZ VX UT)
  (e17:En K "sides" uI f17 Qu O6 MK RV TC N0 WY VW US)
  (e18:En K "turn" E8 f18 Qt O5 MJ RU TB NZ WX VU UR)
  (e19:En K "show_end" mJ f19 Qs O4 MI RT Tz NY WW VS UQ)
  (e20:En K "show_train" jH f20 Qr O3 MH RS Tx NW WV VR UP)
  (e21:En K "show_run" mI f21 Qq O2 MG RQ Tw NV WU VQ UO)
  (e22:En K "read_number" iG f22 Qp O1 MF RP Tv NU WT VP UN)
  (e23:En K "read_end" j6 f23 Qo O0 ME RO Tu NT WS VO UM)
  (e24:En K "words_behind" jz f24 Qn OZ MD RN Tt NS WR VN UL)
  (e25:En K "read_joint" mh f25 Qm OY MC RM Ts NR WQ VM UK)
  (e26:En K "read_line" lF f26 Ql OX MB RK Tr NQ WO VJ UJ)
  (e27:En K "read_train" iV f27 Qk OW MA RJ Tq NP WN VI UI)
  (e28:En K "kept_line" gu f28 Qj OV Mz RI Tp NO WM VH UH)
  (e29:En K "kept_train" gz f29 Qi OU My RH To NM WL VG UG)
  (e30:En K "run_or_none" lr f30 Qh OT Mx RG Tn NL WK VF UE)
  (e31:En K "keep_line" pV f31 Qg OS Mw RF Tj NK WJ VD UD)
  (e32:En K "keep_train" oW f32 Qf OR Mu RE Ti NJ WI VC UC)
  (e33:En K "keep_shown" jI f33 Qe OQ Mt RD Th NI WH VB UB)
  (e34:En K "go_on" yP f34 Qd OP Ms RC Tg NH WG VA UA)
  (e35:En K "go_back" sN f35 Qc OO Mr RB Tf NG WE Vz Uz)
  (e36:En K "turn_round" oM f36 Qb ON Mq RA Te NF WD Vy Uy)
  (e37:En K "tell_moves" mf f37 Qa OM Mp Rz Td ND WC Vx Ux)
  (e38:En K "tell_train" oO f38 PZ OL Mo Ry Tc NC WB Vw Uw)
  (e39:En K "tell_least" oQ f39 PY OK Mn Rx Tb NB WA Vv Uv)
  (e40:En K "tell_fewest" nF f40 PX OI Mm Rw Ta NA Wz Vu Uu)
  (e41:En K "tell_turn" pU f41 PV OH Mj Rv S9 Nz Wy Vt Ut)
  (e42:En K "tell_standings" kU f42 PU OG Mi Ru S8 Ny Wx Vs Us)
  (e43:En K "tell_sides" oP f43 PR OF Mh Rt S0 Nx Ww Vr Ur)
  (e44:En K "tell_longest" mH f44 PQ OE Mg Rr SY Nw Wv Vq Uq)
  (e45:En K "_law_cell_at" jV f45 PM OD Mf Rq SX Nv Wu Vp Up)
  (e46:En K "_law_mix" mr f46 PL OC Me Rp SW Nu Wt Vo Uo)
  (e47:En K "_law_other" ki f47 PK OB Md Ro SV Nt Ws Vn Um)
  (e48:En K "_law_line" oS f48 PJ OA Mc Rn SU Nr Wr Vm Ul)
  (e49:En K "_law_joined" iW f49 PH Oz Mb Rm SS Nq Wq Vl Uk)
  (e50:En K "_law_train" jA f50 PD Oy L9 Rl SR Np Wo Vk Uj)
  (e51:En K "_law_moves" lG f51 PB Ox L8 Rk SQ Nn Wn Vj Ui)
  (e52:En K "_law_end_text" iO f52 Pz Ow L7 Rj SO Nm Wm Vi Uh)
  (e53:En K "_law_train_text" hX f53 Py Ov L6 Ri SN Nl Wl Vh Ug)
  (e54:En K "_law_line_text" i7 f54 Px Ou L5 Rh SM Nk Wk Vg Ue)
  (e55:En K "_law_number" iz f55 Pw Ot LZ Rg SJ Nj Wj Vf Ud)
  (e56:En K "_law_end" mw f56 Pu Oq LY Rf SI Ni Wi Ve Uc)
  (e57:En K "_law_read_train" iN f57 Pt Oo LX Rc SH Nh Wh Vd Ub)
  (e58:En K "_law_read_line" iu f58 Pr Om LW Rb SG Ng Wg Vc Ua)
  (e59:En K "_law_is_line" lz f59 Pq Ol LV Ra SF Nf Wf Vb T9)
  (e60:En K "_law_is_train" jB f60 Pp Oj LU Q9 SE Nd We Va T8)
  (e61:En K "_law_kind" oU f61 Po Oi LS Q8 SD Nc Wd U9 T7)
  (e62:En K "_law_said" oR f62 Pn Oh LR Q7 SA Nb Wc U8 T6)
  (e63:En K "_law_reads_to" kG f63 Pm Og LQ Q6 Sz Na Wb U7 T5)
  (e64:En K "_law_row_due" lx f64 Pl Of LP Q5 Sy M9 Wa U6 T1)
  (e65:En K "_law_lacks" nh f65 Pk Oe LO Q4 Sx M8 V9 U5 TZ)
  (e66:En K "_law_thing_due" i6 f66 Pj Od LN Q3 Sw M7 V8 U4 TY)
  (e67:En K "_law_odd_row" ly f67 Ph Oc LM Q1 Sv M6 V7 U3 TX)
  (e68:En K "_law_any_row" lA f68 Pg Ob LL Q0 Su M5 V6 U2 TV)
  (e69:En K "_law_bent" oV f69 Pf Oa LK QZ Ss M4 V5 U1 TU)
  (e70:En K "law" xM f70 Pe N9 LJ KP Le Ku Lm Li Lh)
  (z1:PySem.W.nsIn K mainGlobals "len" = some none) (z2:PySem.W.nsIn K mainGlobals "range" = some none) (z3:PySem.W.nsIn K mainGlobals "sorted" = some none) (z4:PySem.W.nsIn K mainGlobals "enumerate" = some none) (z5:PySem.W.nsIn K mainGlobals "reversed" = some none) (z6:PySem.W.nsIn K mainGlobals "min" = some none) (z7:PySem.W.nsIn K mainGlobals "max" = some none) (z8:PySem.W.nsIn K mainGlobals "list" = some none) (z9:PySem.W.nsIn K mainGlobals "int" = some none) (z10:PySem.W.nsIn K mainGlobals "isinstance" = some none) (z11:PySem.W.nsIn K mainGlobals "zip" = some none) (z12:PySem.W.nsIn K mainGlobals "sum" = some none) (z13:PySem.W.nsIn K mainGlobals "all" = some none) (z14:PySem.W.nsIn K mainGlobals "set" = some none) (z15:PySem.W.nsIn K mainGlobals "tuple" = some none) (z16:PySem.W.nsIn K mainGlobals "abs" = some none) (z17:PySem.W.nsIn K mainGlobals "bool" = some none) (z18:PySem.W.nsIn K mainGlobals "dict" = some none) (z19:PySem.W.nsIn K mainGlobals "str" = some none)
  {C0 C1 C2 C3 C4 C5 C6 C7:Addr} (ve:PySem.W.nsIn K mainGlobals "ValueError" = some none) (xb0:mY K "TurnError" C0) (xb1:mY K "NoLine" C1) (xb2:mY K "NoTrain" C2) (xb3:mY K "NoMove" C3) (xb4:mY K "NoPiece" C4) (xb5:mY K "TooMany" C5) (xb6:mY K "NoText" C6) (xb7:mY K "NoRow" C7) (xd1:rB K C0 C1) (xd2:rB K C0 C2) (xd3:rB K C0 C3) (xd4:rB K C0 C4) (xd5:rB K C0 C5) (xd6:rB K C0 C6) (xd7:rB K C0 C7) (xe1:sD K C1 C2 C3 C4 C5 C6 C7) (xe2:sD K C2 C1 C3 C4 C5 C6 C7) (xe3:sD K C3 C1 C2 C4 C5 C6 C7) (xe4:sD K C4 C1 C2 C3 C5 C6 C7) (xe5:sD K C5 C1 C2 C3 C4 C6 C7) (xe6:sD K C6 C1 C2 C3 C4 C5 C7) (xe7:sD K C7 C1 C2 C3 C4 C5 C6) (nd:[C1,C2,C3,C4,C5,C6,C7].Nodup)
  {tk0:Tok} (ck0:PySem.W.nsIn K mainGlobals "MOST_PIECES" = some (some (.int 40 tk0)))
  {tk1:Tok} (ck1:PySem.W.nsIn K mainGlobals "MOST_JOINTS" = some (some (.int 80 tk1)))
  {tk2:Tok} (ck2:PySem.W.nsIn K mainGlobals "FIGURES" = some (some (.str "0123456789" tk2)))
  {tk3:Tok} (ck3:PySem.W.nsIn K mainGlobals "MOST_FIGURES" = some (some (.int 40 tk3)))
  {CD FI FS:Addr} (dn:PySem.W.nsIn K mainGlobals "Desk" = some (some (.ref CD))) (d1:PySem.W.makesIn K CD=true) (d2:PySem.W.findIn K (.ref CD) "__init__" = some (some (.ref FI))) (d3:PySem.W.isFn K (.ref FI)=true) (d4:PySem.W.keepIn K (.ref CD)=true) (d5:PySem.W.plainGet K CD Str.empty=true) (d6:PySem.W.hasDictIn K CD=true) (d7:PySem.W.plainOver K CD=true) (d8:PySem.W.findIn K (.ref CD) "__setattr__" = some (some (.builtin "object.__setattr__"))) (d9:PySem.W.findIn K (.ref CD) "say" = some (some (.ref FS))) (d10:PySem.W.isFn K (.ref FS)=true) (d11:PySem.W.keepIn K (.ref FS)=true) (d12:PySem.W.findIn K (.ref CD) "line" = some none) (d13:PySem.W.findIn K (.ref CD) "train" = some none)
  {QP QU:Option Addr}{QN:Array (Option Value)}{QQ QR QS QO KJ QT:Value} (mil:K.lookup FI=some ⟨QQ,QP,.func (PySem.W.fnOf "__init__" "Desk.__init__" (lC iA) (j4 iA) (eT iA) .none QR QS QO QU KJ QT),QN⟩) (mic:PySem.W.codeIn K KJ "Desk.__init__" = true) (mik:PySem.W.keepIn K (.ref FI)=true)
  {QH QM:Option Addr}{QF:Array (Option Value)}{QI QJ QK QG KH QL:Value} (msl:K.lookup FS=some ⟨QI,QH,.func (PySem.W.fnOf "say" "Desk.say" (lC iH) (j4 iH) (eT iH) .none QJ QK QG QM KH QL),QF⟩) (msc:PySem.W.codeIn K KH "Desk.say" = true) (msk:PySem.W.keepIn K (.ref FS)=true)
  {od0:Addr}{xZ ya AJ AI qY t8:Tok}{ep0:Nat} (ka0:PySem.W.nsIn K mainGlobals "ALONE" = some (some (.ref od0))) (kb0:K.lookup od0=some {cls:=.type "dict",data:=.dict #[⟨PyData.keyHash w.params (Str.ofString "round"),.str (Str.ofString "round") xZ,.ref f36⟩,⟨PyData.keyHash w.params (Str.ofString "moves"),.str (Str.ofString "moves") ya,.ref f37⟩,⟨PyData.keyHash w.params (Str.ofString "here"),.str (Str.ofString "here") AJ,.ref f38⟩,⟨PyData.keyHash w.params (Str.ofString "turn"),.str (Str.ofString "turn") AI,.ref f41⟩,⟨PyData.keyHash w.params (Str.ofString "standings"),.str (Str.ofString "standings") qY,.ref f42⟩,⟨PyData.keyHash w.params (Str.ofString "longest"),.str (Str.ofString "longest") t8,.ref f44⟩] ep0}) (kc0:(od0==sysModules)=false)
  {od1:Addr}{AG xW F3 AH xY vR xX:Tok}{ep1:Nat} (ka1:PySem.W.nsIn K mainGlobals "WITH_REST" = some (some (.ref od1))) (kb1:K.lookup od1=some {cls:=.type "dict",data:=.dict #[⟨PyData.keyHash w.params (Str.ofString "line"),.str (Str.ofString "line") AG,.ref f31⟩,⟨PyData.keyHash w.params (Str.ofString "train"),.str (Str.ofString "train") xW,.ref f32⟩,⟨PyData.keyHash w.params (Str.ofString "on"),.str (Str.ofString "on") F3,.ref f34⟩,⟨PyData.keyHash w.params (Str.ofString "back"),.str (Str.ofString "back") AH,.ref f35⟩,⟨PyData.keyHash w.params (Str.ofString "least"),.str (Str.ofString "least") xY,.ref f39⟩,⟨PyData.keyHash w.params (Str.ofString "fewest"),.str (Str.ofString "fewest") vR,.ref f40⟩,⟨PyData.keyHash w.params (Str.ofString "sides"),.str (Str.ofString "sides") xX,.ref f43⟩] ep1}) (kc1:(od1==sysModules)=false):
  ∃ fd:FuncData,(∀ (s:Shared) (v:Value),BindsTo s fd ⟨[v],[]⟩ [("_law_script",v)])/\∀ base:Heap,K.In base->base.Ns mainGlobals mg->eX l.prog w K mg base CX0 11 fa fd ["_law_script"] (yz K):=by
 have e:=hfa.symm.trans (cx X G e70.a)
 cases e
 have B:Bm mg:=⟨⟨aQ X G z1,aQ X G z2,aQ X G z3,aQ X G z4,aQ X G z5,aQ X G z6,aQ X G z7,aQ X G z8,aQ X G z9,aQ X G z10⟩,aQ X G z11,aQ X G z12,aQ X G z13,aQ X G z14,aQ X G z15,aQ X G z16,aQ X G z17,aQ X G z18,aQ X G z19⟩
 have XS:=JV X G ve xb0 xb1 xb2 xb3 xb4 xb5 xb6 xb7 xd1 xd2 xd3 xd4 xd5 xd6 xd7 xe1 xe2 xe3 xe4 xe5 xe6 xe7 nd
 have CL:Cl mg tk0 tk1:=⟨cx X G ck0,cx X G ck1⟩
 have CT:Ct mg tk2 tk3:=⟨cx X G ck2,cx X G ck3⟩
 have DK:DkK K mg CD FI FS:=⟨⟨d1,d2,d3,d4⟩,cx X G dn,⟨d5,d6,d7,d8⟩,⟨d9,d10,d11⟩,d12,d13⟩
 have nC:Fm K "__init__" "Desk.__init__" iA ["self"] FI _:=⟨tw (st:=iA) mil mic mik,(tw (st:=iA) mil mic mik).binds (ps:=["self"]) λ_ _ _ _ _ _=>bn1 (λ_=>rfl)⟩
 have jF:Fm K "say" "Desk.say" iH ["self","row"] FS _:=⟨tw (st:=iH) msl msc msk,(tw (st:=iH) msl msc msk).binds (ps:=["self","row"]) λ_ _ _ _ _ _=>bn2 (λ_ _=>rfl)⟩
 have uR:BX l.prog w K mg "ALONE" od0 _:=kd_in (kvs:=[(Str.ofString "round",f36,xZ),(Str.ofString "moves",f37,ya),(Str.ofString "here",f38,AJ),(Str.ofString "turn",f41,AI),(Str.ofString "standings",f42,qY),(Str.ofString "longest",f44,t8)]) (cx X G ka0) kb0 (by show([Str.ofString "round",Str.ofString "moves",Str.ofString "here",Str.ofString "turn",Str.ofString "standings",Str.ofString "longest"]:List Str).Nodup;decide +kernel)
 have nz:BX l.prog w K mg "WITH_REST" od1 _:=kd_in (kvs:=[(Str.ofString "line",f31,AG),(Str.ofString "train",f32,xW),(Str.ofString "on",f34,F3),(Str.ofString "back",f35,AH),(Str.ofString "least",f39,xY),(Str.ofString "fewest",f40,vR),(Str.ofString "sides",f43,xX)]) (cx X G ka1) kb1 (by show([Str.ofString "line",Str.ofString "train",Str.ofString "on",Str.ofString "back",Str.ofString "least",Str.ofString "fewest",Str.ofString "sides"]:List Str).Nodup;decide +kernel)
 have fR:=fH (ps:=["end"]) X G e1 λ_ _ _ _ _ _=>bn1 (λ_=>rfl)
 have fB:=fH (ps:=["end"]) X G e2 λ_ _ _ _ _ _=>bn1 (λ_=>rfl)
 have ig:=fH (ps:=["line","end"]) X G e3 λ_ _ _ _ _ _=>bn2 (λ_ _=>rfl)
 have jR:=fH (ps:=["line"]) X G e4 λ_ _ _ _ _ _=>bn1 (λ_=>rfl)
 have ji:=fH (ps:=["line","joint"]) X G e5 λ_ _ _ _ _ _=>bn2 (λ_ _=>rfl)
 have i8:=fH (ps:=["line","end"]) X G e6 λ_ _ _ _ _ _=>bn2 (λ_ _=>rfl)
 have gy:=fH (ps:=["line","train"]) X G e7 λ_ _ _ _ _ _=>bn2 (λ_ _=>rfl)
 have oz:=fH (ps:=["train"]) X G e8 λ_ _ _ _ _ _=>bn1 (λ_=>rfl)
 have iF:=fH (ps:=["line","train","end"]) X G e9 λ_ _ _ _ _ _=>bn3 (λ_ _ _=>rfl)
 have ie:=fH (ps:=["line","train"]) X G e10 λ_ _ _ _ _ _=>bn2 (λ_ _=>rfl)
 have m7:=fH (ps:=["line","train","move"]) X G e11 λ_ _ _ _ _ _=>bn3 (λ_ _ _=>rfl)
 have gH:=fH (ps:=["line","train","goal"]) X G e12 λ_ _ _ _ _ _=>bn3 (λ_ _ _=>rfl)
 have oE:=fH (ps:=["line","train"]) X G e13 λ_ _ _ _ _ _=>bn2 (λ_ _=>rfl)
 have qP:=fH (ps:=["line","train","goal"]) X G e14 λ_ _ _ _ _ _=>bn3 (λ_ _ _=>rfl)
 have oB:=fH (ps:=["line","train","goal"]) X G e15 λ_ _ _ _ _ _=>bn3 (λ_ _ _=>rfl)
 have oA:=fH (ps:=["line"]) X G e16 λ_ _ _ _ _ _=>bn1 (λ_=>rfl)
 have qO:=fH (ps:=["line","piece"]) X G e17 λ_ _ _ _ _ _=>bn2 (λ_ _=>rfl)
 have wA:=fH (ps:=["line","train"]) X G e18 λ_ _ _ _ _ _=>bn2 (λ_ _=>rfl)
 have ic:=fH (ps:=["end"]) X G e19 λ_ _ _ _ _ _=>bn1 (λ_=>rfl)
 have gG:=fH (ps:=["train"]) X G e20 λ_ _ _ _ _ _=>bn1 (λ_=>rfl)
 have lh:=fH (ps:=["run"]) X G e21 λ_ _ _ _ _ _=>bn1 (λ_=>rfl)
 have fT:=fH (ps:=["text"]) X G e22 λ_ _ _ _ _ _=>bn1 (λ_=>rfl)
 have fP:=fH (ps:=["text"]) X G e23 λ_ _ _ _ _ _=>bn1 (λ_=>rfl)
 have gm:=fH (ps:=["row","word","many"]) X G e24 λ_ _ _ _ _ _=>bn3 (λ_ _ _=>rfl)
 have jQ:=fH (ps:=["row"]) X G e25 λ_ _ _ _ _ _=>bn1 (λ_=>rfl)
 have kz:=fH (ps:=["text"]) X G e26 λ_ _ _ _ _ _=>bn1 (λ_=>rfl)
 have fX:=fH (ps:=["text"]) X G e27 λ_ _ _ _ _ _=>bn1 (λ_=>rfl)
 have eV:=fH (ps:=["desk"]) X G e28 λ_ _ _ _ _ _=>bn1 (λ_=>rfl)
 have eZ:=fH (ps:=["desk"]) X G e29 λ_ _ _ _ _ _=>bn1 (λ_=>rfl)
 have fW:=fH (ps:=["told"]) X G e30 λ_ _ _ _ _ _=>bn1 (λ_=>rfl)
 have qA:=fH (ps:=["desk","rest"]) X G e31 λ_ _ _ _ _ _=>bn2 (λ_ _=>rfl)
 have pE:=fH (ps:=["desk","rest"]) X G e32 λ_ _ _ _ _ _=>bn2 (λ_ _=>rfl)
 have fY:=fH (ps:=["desk","train"]) X G e33 λ_ _ _ _ _ _=>bn2 (λ_ _=>rfl)
 have zK:=fH (ps:=["desk","rest"]) X G e34 λ_ _ _ _ _ _=>bn2 (λ_ _=>rfl)
 have tR:=fH (ps:=["desk","rest"]) X G e35 λ_ _ _ _ _ _=>bn2 (λ_ _=>rfl)
 have pz:=fH (ps:=["desk"]) X G e36 λ_ _ _ _ _ _=>bn1 (λ_=>rfl)
 have pC:=fH (ps:=["desk"]) X G e37 λ_ _ _ _ _ _=>bn1 (λ_=>rfl)
 have pA:=fH (ps:=["desk"]) X G e38 λ_ _ _ _ _ _=>bn1 (λ_=>rfl)
 have pD:=fH (ps:=["desk","rest"]) X G e39 λ_ _ _ _ _ _=>bn2 (λ_ _=>rfl)
 have nV:=fH (ps:=["desk","rest"]) X G e40 λ_ _ _ _ _ _=>bn2 (λ_ _=>rfl)
 have qz:=fH (ps:=["desk"]) X G e41 λ_ _ _ _ _ _=>bn1 (λ_=>rfl)
 have lg:=fH (ps:=["desk"]) X G e42 λ_ _ _ _ _ _=>bn1 (λ_=>rfl)
 have pB:=fH (ps:=["desk","rest"]) X G e43 λ_ _ _ _ _ _=>bn2 (λ_ _=>rfl)
 have m6:=fH (ps:=["desk"]) X G e44 λ_ _ _ _ _ _=>bn1 (λ_=>rfl)
 have fK:=fH (ps:=["_law_script","_law_k"]) X G e45 λ_ _ _ _ _ _=>bn2 (λ_ _=>rfl)
 have fD:=fH (ps:=["_law_cell","_law_k"]) X G e46 λ_ _ _ _ _ _=>bn2 (λ_ _=>rfl)
 have fS:=fH (ps:=["_law_end_here"]) X G e47 λ_ _ _ _ _ _=>bn1 (λ_=>rfl)
 have lj:=fH (ps:=["_law_script","_law_start","_law_most","_law_upto"]) X G e48 λ_ _ _ _ _ _=>bn4 (λ_ _ _ _=>rfl)
 have fE:=fH (ps:=["_law_line_here","_law_end_here"]) X G e49 λ_ _ _ _ _ _=>bn2 (λ_ _=>rfl)
 have gR:=fH (ps:=["_law_line_here","_law_number_here","_law_most"]) X G e50 λ_ _ _ _ _ _=>bn3 (λ_ _ _=>rfl)
 have kA:=fH (ps:=["_law_line_here","_law_train_here"]) X G e51 λ_ _ _ _ _ _=>bn2 (λ_ _=>rfl)
 have fv:=fH (ps:=["_law_end_here"]) X G e52 λ_ _ _ _ _ _=>bn1 (λ_=>rfl)
 have fJ:=fH (ps:=["_law_train_here"]) X G e53 λ_ _ _ _ _ _=>bn1 (λ_=>rfl)
 have gf:=fH (ps:=["_law_line_here"]) X G e54 λ_ _ _ _ _ _=>bn1 (λ_=>rfl)
 have fz:=fH (ps:=["_law_word"]) X G e55 λ_ _ _ _ _ _=>bn1 (λ_=>rfl)
 have gi:=fH (ps:=["_law_word"]) X G e56 λ_ _ _ _ _ _=>bn1 (λ_=>rfl)
 have h9:=fH (ps:=["_law_text"]) X G e57 λ_ _ _ _ _ _=>bn1 (λ_=>rfl)
 have iy:=fH (ps:=["_law_text"]) X G e58 λ_ _ _ _ _ _=>bn1 (λ_=>rfl)
 have jg:=fH (ps:=["_law_line_here"]) X G e59 λ_ _ _ _ _ _=>bn1 (λ_=>rfl)
 have iT:=fH (ps:=["_law_line_here","_law_train_here"]) X G e60 λ_ _ _ _ _ _=>bn2 (λ_ _=>rfl)
 have ll:=fH (ps:=["_law_kept"]) X G e61 λ_ _ _ _ _ _=>bn1 (λ_=>rfl)
 have fQ:=fH (ps:=["_law_desk","_law_row"]) X G e62 λ_ _ _ _ _ _=>bn2 (λ_ _=>rfl)
 have iS:=fH (ps:=["_law_word","_law_rest"]) X G e63 λ_ _ _ _ _ _=>bn2 (λ_ _=>rfl)
 have je:=fH (ps:=["_law_state","_law_row"]) X G e64 λ_ _ _ _ _ _=>bn2 (λ_ _=>rfl)
 have iE:=fH (ps:=["_law_state","_law_word"]) X G e65 λ_ _ _ _ _ _=>bn2 (λ_ _=>rfl)
 have ix:=fH (ps:=["_law_state","_law_word","_law_thing"]) X G e66 λ_ _ _ _ _ _=>bn3 (λ_ _ _=>rfl)
 have jf:=fH (ps:=["_law_number_here"]) X G e67 λ_ _ _ _ _ _=>bn1 (λ_=>rfl)
 have jh:=fH (ps:=["_law_state","_law_number_here"]) X G e68 λ_ _ _ _ _ _=>bn2 (λ_ _=>rfl)
 have lp:=fH (ps:=["_law_row","_law_number_here","_law_cell"]) X G e69 λ_ _ _ _ _ _=>bn3 (λ_ _ _=>rfl)
 have Iq:=fH (ps:=["_law_script"]) X G e70 λ_ _ _ _ _ _=>bn1 (λ_=>rfl)
 refine⟨PySem.W.fnOf "law" "law" (lC xM) (j4 xM) (eT xM) .none KP Le Ku Lm Li Lh,λs v=>.of_eq rfl,λbase _ _=>?_⟩
 have XL:Xl K mg _:=⟨XS.jq⟩
 have XX:Xx K mg _:=⟨XS.kO⟩
 have XR:Xr K mg _ _:=⟨XS.iK,XS.tN⟩
 have rD:eX l.prog w K mg base CX0 3 _ _ _ _:=(An lj fD fK B.toBl).mono (by decide)
 have nT:eX l.prog w K mg base (CXr l.prog w base) 2 _ _ _ _:=vN ji XL ig fB
 have px:eX l.prog w K mg base (CXr l.prog w base) 3 _ _ _ _:=xh jR XL B CL ji nT
 have gO:eX l.prog w K mg base (CXr l.prog w base) 1 _ _ _ _:=vH fT B CT XX
 have gL:eX l.prog w K mg base (CXr l.prog w base) 2 _ _ _ _:=Ak fP XX fT gO
 have iR:eX l.prog w K mg base (CXr l.prog w base) 1 _ _ _ _:=uu gm B XX
 have pw:eX l.prog w K mg base (CXr l.prog w base) 3 _ _ _ _:=xa jQ fP gm gL iR
 have qx:eX l.prog w K mg base (CXr l.prog w base) 4 _ _ _ _:=yX kz fT gm jQ jR gO iR pw px
 have g0:eX l.prog w K mg base (CXr l.prog w base) 4 _ _ _ _:=(wZ fX fP gL).mono (by decide)
 have kY:eX l.prog w K mg base CX0 2 _ _ _ _:=Aj ic fB
 have jM:eX l.prog w K mg base CX0 3 _ _ _ _:=wY gG ic kY
 have rC:eX l.prog w K mg base CX0 3 _ _ _ _:=Ai lh ic kY
 have wt:eX l.prog w K mg base CX0 2 _ _ _ _:=DN oz B.toBl fR
 have nA:eX l.prog w K mg base CX0 2 _ _ _ _:=za iF B.toBl fB i8
 have kZ:eX l.prog w K mg base CX0 3 _ _ _ _:=Al ie fR iF nA
 have tQ:eX l.prog w K mg base (CXr l.prog w base) 4 _ _ _ _:=Hg m7 XR ie kZ
 have jd:eX l.prog w K mg base (CXr l.prog w base) 4 _ _ _ _:=(vM gy XR B ig fB i8 fR).mono (by decide)
 have fm:eX l.prog w K mg base (CXr l.prog w base) 1 _ _ _ _:=sd eV XS DK
 have fq:eX l.prog w K mg base (CXr l.prog w base) 2 _ _ _ _:=xb eZ XS DK eV
 have Bf:eX l.prog w K mg base (CXr l.prog w base) 5 _ _ _ (lE K CD [C1,C3,C4,C7,C6,C2,C5] 2100 oq):=y4 qA DK kz qx
 have g8:eX l.prog w K mg base CX0 4 _ _ _ _:=xg fY DK gG jM
 have zJ:eX l.prog w K mg base (CXr l.prog w base) 5 _ _ _ (lE K CD [C1,C3,C4,C7,C6,C2,C5] 800 kc):=xf pE DK fX g0 eV fm gy jd
 have HI:eX l.prog w K mg base (CXr l.prog w base) 5 _ _ _ (lE K CD [C1,C3,C4,C7,C6,C2,C5] 800 (dGo "on")):=FG zK fP gL eV fm eZ fq m7 tQ fY g8
 have EC:eX l.prog w K mg base (CXr l.prog w base) 5 _ _ _ (lE K CD [C1,C3,C4,C7,C6,C2,C5] 800 (dGo "back")):=By tR fP gL eV fm eZ fq m7 tQ fY g8
 have zD:eX l.prog w K mg base (CXr l.prog w base) 4 _ _ _ (nY K CD [C1,C3,C4,C7,C6,C2,C5] pM):=wU pA gG jM eZ fq
 have zC:eX l.prog w K mg base (CXr l.prog w base) 5 _ _ _ (nY K CD [C1,C3,C4,C7,C6,C2,C5] tG):=wR pz eZ fq oz wt fY g8
 have zF:eX l.prog w K mg base (CXr l.prog w base) 4 _ _ _ (nY K CD [C1,C3,C4,C7,C6,C2,C5] lT):=wW pC lh rC eV fm eZ fq ie kZ
 have jP:eX l.prog w K mg base (CXr l.prog w base) 5 _ _ _ _:=xi gH XR B gy jd
 have zI:eX l.prog w K mg base (CXr l.prog w base) 6 _ _ _ _:=DR qP gH jP
 have wz:eX l.prog w K mg base (CXr l.prog w base) 6 _ _ _ _:=Bz oB gH jP
 have zH:eX l.prog w K mg base (CXr l.prog w base) 1 _ _ _ _:=DQ qO XS
 have zG:eX l.prog w K mg base (CXr l.prog w base) 7 _ _ _ (pF K CD [C1,C3,C4,C7,C6,C2,C5] 800 gS):=wX pD fX g0 eV fm eZ fq qP zI fW
 have xt:eX l.prog w K mg base (CXr l.prog w base) 7 _ _ _ (pF K CD [C1,C3,C4,C7,C6,C2,C5] 800 gS):=vG nV fX g0 eV fm eZ fq oB wz fW
 have Be:eX l.prog w K mg base (CXr l.prog w base) 4 _ _ _ (pG K CD [C1,C3,C4,C7,C6,C2,C5] (kb true)):=yW qz B eV fm eZ fq wA fW
 have tO:eX l.prog w K mg base (CXr l.prog w base) 4 _ _ _ (pG K CD [C1,C3,C4,C7,C6,C2,C5] (kb true)):=rX (f5:=CD) (fd5:=fdo Iq) lg B eV fm eZ fq oE
 have zE:eX l.prog w K mg base (CXr l.prog w base) 4 _ _ _ (pF K CD [C1,C3,C4,C7,C6,C2,C5] 800 km):=wV pB fT gO eV fm qO zH
 have wu:eX l.prog w K mg base (CXr l.prog w base) 4 _ _ _ (pG K CD [C1,C3,C4,C7,C6,C2,C5] (kb false)):=uv m6 eV fm oA
 have ke:eX l.prog w K mg base (CXr l.prog w base) 8 _ _ _ _:=Aq jF XS nz kc1 uR kc0
 have DD:yq l.prog w K mg base _ _ CD [C1,C3,C4,C7,C6,C2,C5]:=GA ⟨_,_,Bf.mono (by decide),qA.F.kp,qA.b⟩ ⟨_,_,zJ.mono (by decide),pE.F.kp,pE.b⟩ ⟨_,_,HI.mono (by decide),zK.F.kp,zK.b⟩ ⟨_,_,EC.mono (by decide),tR.F.kp,tR.b⟩ ⟨_,_,zG.mono (by decide),pD.F.kp,pD.b⟩ ⟨_,_,xt.mono (by decide),nV.F.kp,nV.b⟩ ⟨_,_,zE.mono (by decide),pB.F.kp,pB.b⟩ ⟨_,_,zC.mono (by decide),pz.F.kp,pz.b⟩ ⟨_,_,zD.mono (by decide),pA.F.kp,pA.b⟩ ⟨_,_,zF.mono (by decide),pC.F.kp,pC.b⟩ ⟨_,_,Be.mono (by decide),qz.F.kp,qz.b⟩ ⟨_,_,tO.mono (by decide),lg.F.kp,lg.b⟩ ⟨_,_,wu.mono (by decide),m6.F.kp,m6.b⟩
 have i5:eX l.prog w K mg base CX0 9 _ _ _ _:=Am fQ XS B DK jF ke ll
 have kv:eX l.prog w K mg base CX0 2 _ _ _ _:=yY gR fD fS fE B.toBl
 have qy:eX l.prog w K mg base CX0 2 _ _ _ _:=yZ kA fS fE B.toBl
 have iw:eX l.prog w K mg base CX0 2 _ _ _ _:=sU gf B fv
 have gM:eX l.prog w K mg base CX0 2 _ _ _ _:=rY fJ B fv
 have gQ:eX l.prog w K mg base CX0 1 _ _ _ _:=lP fv B
 have m3:eX l.prog w K mg base CX0 2 _ _ _ _:=uy iT B fE fS
 have lX:eX l.prog w K mg base CX0 3 _ _ _ _:=sT iy B fz gi
 have mZ:eX l.prog w K mg base CX0 4 _ _ _ _:=uw iS B fz gi h9
 have lW:eX l.prog w K mg base CX0 3 _ _ _ _:=sS ix B iT m3 kA qy
 have nR:eX l.prog w K mg base CX0 5 _ _ _ _:=vI je B iE iy lX jg iS mZ ix lW
 have nS:eX l.prog w K mg base CX0 3 _ _ _ _:=vL jh B fv gQ gR kv fJ gM gf iw
 exact Jb Iq B DK DD nC jF ke lj rD fD fK gR kv fJ gM gf iw fQ i5 jh nS jf lp je nR
theorem walk {l:PySem.W.OpenLaw}{q:Program}{loose:List Str}{XP:(Str->Option Value)->Heap->Prop}{YP:World->Heap->Prop}{d:DefRec}{K:Params->PySem.W.Frag}(hn:l.most=some 63)(hdf:d.params.defaults = [])
  (hY:∀ (w:World) (h:Heap),YP w h->(K w.params).In h)
  (F:∀ (w:World) (mg:Str->Option Value) (fa:Addr) (h:Heap),(K w.params).In h->h.Ns mainGlobals mg->mg d.name=some (.ref fa)->
   ∃ fd:FuncData,(∀ (s:Shared) (u:Value),BindsTo s fd ⟨[u],[]⟩ [("_law_script",u)])/\∀ base:Heap,(K w.params).In base->base.Ns mainGlobals mg->eX l.prog w (K w.params) mg base CX0 11 fa fd ["_law_script"] (yz (K w.params))):
  PySem.W.WalkO q loose XP YP l.row.toRowW d [] (λf vs=>PySem.call f vs):=
 L2.GL (n:=63) (k:=11) (x:= "_law_script") (CX:=λ_=>CX0) (sp:=λw=>yz (K w.params)) hn (by decide) hdf ⟨rfl,by decide,by decide⟩ hY F (λ_ _ a ns hl _ hS=>⟨a,ns,rfl,hS,λ_=>rfl⟩) λ_ _ _ _ _ z=>z
end K82
namespace PySem.W.Fast
noncomputable def tw10059728336962185561:=0
noncomputable def tw10088239486647382769:=0
noncomputable def tw10132065964937153182:=0
noncomputable def tw10148231607372376854:=0
noncomputable def tw10186395331102982279:=0
noncomputable def tw10198822065159768534:=0
noncomputable def tw10221081042526571324:=0
noncomputable def tw10221370849390258239:=0
noncomputable def tw10232409568830678579:=0
noncomputable def tw10266434380917512456:=0
noncomputable def tw10279740362197209749:=0
noncomputable def tw10300474467840859963:=0
noncomputable def tw10369783094607456783:=0
noncomputable def tw10375390350148637670:=0
noncomputable def tw10377533402321292793:=0
noncomputable def tw10415168856938624138:=0
noncomputable def tw10444081011338290513:=0
noncomputable def tw10465302477115882592:=0
noncomputable def tw10471125012237939736:=0
noncomputable def tw10488200662683404113:=0
noncomputable def tw10494862293460559495:=0
noncomputable def tw10498831193812629333:=0
noncomputable def tw10532936274026256170:=0
noncomputable def tw10570316625853409229:=0
noncomputable def tw10633416971620923359:=0
noncomputable def tw10648563012429365802:=0
noncomputable def tw10651680222535232793:=0
noncomputable def tw1068426048932511437:=0
noncomputable def tw10690868091520526360:=0
noncomputable def tw10701553651263940058:=0
noncomputable def tw10707757181579189746:=0
noncomputable def tw10751109154001363768:=0
noncomputable def tw1076623723634262038:=0
noncomputable def tw10774132306581568742:=0
noncomputable def tw10784209831081036517:=0
noncomputable def tw10896528517044754082:=0
noncomputable def tw10930686023785284526:=0
noncomputable def tw10949512781050355041:=0
noncomputable def tw1095079861407659843:=0
noncomputable def tw10952396297482349391:=0
noncomputable def tw10958687369925253999:=0
noncomputable def tw10962157657988174976:=0
noncomputable def tw10969921003543934105:=0
noncomputable def tw11031496727922576820:=0
noncomputable def tw11040951169266958575:=0
noncomputable def tw11069389872903045418:=0
noncomputable def tw11069763052135256448:=0
noncomputable def tw11199841325019161731:=0
noncomputable def tw11215027289853101468:=0
noncomputable def tw11242373670034656995:=0
noncomputable def tw11255441297067668902:=0
noncomputable def tw11270867746113535884:=0
noncomputable def tw1127987174058219820:=0
noncomputable def tw11288193774561427734:=0
noncomputable def tw11319426713234310587:=0
noncomputable def tw11366435153334890660:=0
noncomputable def tw1137526375072207858:=0
noncomputable def tw11393070142483787587:=0
noncomputable def tw11415547280487041557:=0
noncomputable def tw11425629177201803620:=0
noncomputable def tw11453108082262734892:=0
noncomputable def tw11483340604136910172:=0
noncomputable def tw11506584690345649584:=0
noncomputable def tw11536771036750738669:=0
noncomputable def tw11587326779479337567:=0
noncomputable def tw11594493340894503142:=0
noncomputable def tw11751858195837428698:=0
noncomputable def tw11787397104761093288:=0
noncomputable def tw11794110497273299608:=0
noncomputable def tw11818489283737941008:=0
noncomputable def tw11838734281141346730:=0
noncomputable def tw11856992228574962256:=0
noncomputable def tw1196711291879322654:=0
noncomputable def tw1197070818361993978:=0
noncomputable def tw12065769717827329746:=0
noncomputable def tw12069915900587945956:=0
noncomputable def tw12077478246267156032:=0
noncomputable def tw12120396479315242825:=0
noncomputable def tw12137295576127735099:=0
noncomputable def tw12149577633807979221:=0
noncomputable def tw12157006924078134708:=0
noncomputable def tw12165451187232895211:=0
noncomputable def tw12302977908917956547:=0
noncomputable def tw1231968355393606366:=0
noncomputable def tw12341211243759773362:=0
noncomputable def tw12343358166287998928:=0
noncomputable def tw12387456812534494777:=0
noncomputable def tw12407891230476403775:=0
noncomputable def tw12417269436707795967:=0
noncomputable def tw1242579938072874868:=0
noncomputable def tw12475318027928251239:=0
noncomputable def tw12519620901702062620:=0
noncomputable def tw1254865706588847547:=0
noncomputable def tw1260573799923054756:=0
noncomputable def tw12669913082047749659:=0
noncomputable def tw1273519707990357472:=0
noncomputable def tw12747855691443988815:=0
noncomputable def tw12752237435249683833:=0
noncomputable def tw12789573296477427609:=0
noncomputable def tw12815260389847519388:=0
noncomputable def tw12844000159017534426:=0
noncomputable def tw12876732434252851009:=0
noncomputable def tw12945452821256404226:=0
noncomputable def tw12958759503382329410:=0
noncomputable def tw12985465738699379315:=0
noncomputable def tw13010901473427849665:=0
noncomputable def tw13023494727987302651:=0
noncomputable def tw13033536153604792392:=0
noncomputable def tw13062784549334490025:=0
noncomputable def tw13075438569032451275:=0
noncomputable def tw13088363210727431241:=0
noncomputable def tw13158949472690620103:=0
noncomputable def tw1316453048042094672:=0
noncomputable def tw13169121660098092598:=0
noncomputable def tw13190944720508636155:=0
noncomputable def tw13197830650231110868:=0
noncomputable def tw13200729391475682760:=0
noncomputable def tw13214492114628136815:=0
noncomputable def tw13222450037190232276:=0
noncomputable def tw13242231058265735713:=0
noncomputable def tw13244705517865454811:=0
noncomputable def tw13285984855475136320:=0
noncomputable def tw1328787273634486094:=0
noncomputable def tw13295996308995893842:=0
noncomputable def tw13301086067102712832:=0
noncomputable def tw13317718592810533034:=0
noncomputable def tw1332729725538679685:=0
noncomputable def tw13349249988372106268:=0
noncomputable def tw13381357623185056145:=0
noncomputable def tw13395540261328835512:=0
noncomputable def tw13413316010195690727:=0
noncomputable def tw13514358750020788403:=0
noncomputable def tw13536498413981446969:=0
noncomputable def tw13545796639084793779:=0
noncomputable def tw13552974242138336986:=0
noncomputable def tw13587982797724643211:=0
noncomputable def tw13602697751041955775:=0
noncomputable def tw1362199472610741105:=0
noncomputable def tw1366580642844051322:=0
noncomputable def tw13672989149694299504:=0
noncomputable def tw13736864425082395621:=0
noncomputable def tw13789000824824260159:=0
noncomputable def tw13847169137455397492:=0
noncomputable def tw13899131477213367671:=0
noncomputable def tw13935898861107619522:=0
noncomputable def tw13949037065284583891:=0
noncomputable def tw14024280630394429728:=0
noncomputable def tw14026912301420714650:=0
noncomputable def tw14035011533225650004:=0
noncomputable def tw1405958004694223186:=0
noncomputable def tw14145473270694150410:=0
noncomputable def tw14150133787625673255:=0
noncomputable def tw14174322693441684053:=0
noncomputable def tw14237074207597834542:=0
noncomputable def tw14248672702032127421:=0
noncomputable def tw14279148203740670691:=0
noncomputable def tw14319275030725699036:=0
noncomputable def tw14327076411562289526:=0
noncomputable def tw14331026608201397776:=0
noncomputable def tw14359849227786500011:=0
noncomputable def tw14364999736522369858:=0
noncomputable def tw14402069462045995187:=0
noncomputable def tw14500991363617575596:=0
noncomputable def tw14525348870601819454:=0
noncomputable def tw14531727656710107950:=0
noncomputable def tw145993747802077747:=0
noncomputable def tw14642385967828113854:=0
noncomputable def tw14702123167434891006:=0
noncomputable def tw14704296278076159843:=0
noncomputable def tw14793749107688736398:=0
noncomputable def tw14803875064193707170:=0
noncomputable def tw14806542065394011969:=0
noncomputable def tw14831693153559087724:=0
noncomputable def tw14879803486046193128:=0
noncomputable def tw14911591660684967887:=0
noncomputable def tw1496997415392388091:=0
noncomputable def tw14972242930176433004:=0
noncomputable def tw14980985338423732750:=0
noncomputable def tw15007203160580779847:=0
noncomputable def tw15024450802405191650:=0
noncomputable def tw15028009788703568474:=0
noncomputable def tw15054622756749639297:=0
noncomputable def tw15159937267740043022:=0
noncomputable def tw15161889739424351177:=0
noncomputable def tw15177361994621761784:=0
noncomputable def tw15184220589995767427:=0
noncomputable def tw15239498173753297474:=0
noncomputable def tw15257230241915418634:=0
noncomputable def tw1527525324911447502:=0
noncomputable def tw15285091863617866395:=0
noncomputable def tw15391465667701142654:=0
noncomputable def tw15440656955340222001:=0
noncomputable def tw15454883598614965178:=0
noncomputable def tw15469836206762948544:=0
noncomputable def tw15472471096895005504:=0
noncomputable def tw15570267386558606446:=0
noncomputable def tw15571473256120278686:=0
noncomputable def tw15616524930963030674:=0
noncomputable def tw1562102221560546266:=0
noncomputable def tw1565417961666968635:=0
noncomputable def tw15673827888672553105:=0
noncomputable def tw15695904177036788602:=0
noncomputable def tw15725111131853817561:=0
noncomputable def tw15742233073983588692:=0
noncomputable def tw15746664893182261598:=0
noncomputable def tw15772489610437411905:=0
noncomputable def tw15796629845053135075:=0
noncomputable def tw1585346045226151903:=0
noncomputable def tw15868888759896339454:=0
noncomputable def tw15888245251621817467:=0
noncomputable def tw15947797064479692677:=0
noncomputable def tw15962695844550847745:=0
noncomputable def tw15991756031364308958:=0
noncomputable def tw1599918842899881687:=0
noncomputable def tw16005014759991645763:=0
noncomputable def tw16059620411080997448:=0
noncomputable def tw16069375499360006567:=0
noncomputable def tw16085521857717755792:=0
noncomputable def tw16109500901717047944:=0
noncomputable def tw16142152626723438502:=0
noncomputable def tw16172770734318324559:=0
noncomputable def tw16187928552496418174:=0
noncomputable def tw16213487189220536163:=0
noncomputable def tw16237611584445892829:=0
noncomputable def tw16298129475661054085:=0
noncomputable def tw16323998767804347688:=0
noncomputable def tw1632682542614814038:=0
noncomputable def tw16340626267849902482:=0
noncomputable def tw16414364692575265568:=0
noncomputable def tw16421175822203274526:=0
noncomputable def tw16437439230693071683:=0
noncomputable def tw1643905497430761795:=0
noncomputable def tw16450650732648606633:=0
noncomputable def tw1646873587536887463:=0
noncomputable def tw16602849144346304414:=0
noncomputable def tw16624608244179226166:=0
noncomputable def tw16632803897323652714:=0
noncomputable def tw16660280077615502760:=0
noncomputable def tw16688738371394497127:=0
noncomputable def tw16720154333658326421:=0
noncomputable def tw16770512922562162682:=0
noncomputable def tw16772971324830151147:=0
noncomputable def tw16777733776591158483:=0
noncomputable def tw16778554715450453052:=0
noncomputable def tw16781800670942076526:=0
noncomputable def tw16815416860297973738:=0
noncomputable def tw16867405977647308694:=0
noncomputable def tw16886988819740923633:=0
noncomputable def tw16891694855143710179:=0
noncomputable def tw16935607875195367796:=0
noncomputable def tw1695128638615303688:=0
noncomputable def tw16970174418183175260:=0
noncomputable def tw16975755682633750311:=0
noncomputable def tw1702766890263078188:=0
noncomputable def tw17051629511475775362:=0
noncomputable def tw17055259426317829433:=0
noncomputable def tw17230708911798365292:=0
noncomputable def tw1732442516463356926:=0
noncomputable def tw17333475056659147994:=0
noncomputable def tw17345068322985557172:=0
noncomputable def tw17371867070035977366:=0
noncomputable def tw17382341923981901554:=0
noncomputable def tw17438086141201612507:=0
noncomputable def tw17440673837551684778:=0
noncomputable def tw17471006113118280119:=0
noncomputable def tw17478147668286781969:=0
noncomputable def tw17495391236211984996:=0
noncomputable def tw17517297630343913108:=0
noncomputable def tw17542601119122838997:=0
noncomputable def tw17547656864031581807:=0
noncomputable def tw17556040924916720409:=0
noncomputable def tw17578970085494449499:=0
noncomputable def tw17601856481175761200:=0
noncomputable def tw1762149382445027739:=0
noncomputable def tw17637270229629063723:=0
noncomputable def tw17659586125663561812:=0
noncomputable def tw17715380390116694412:=0
noncomputable def tw17748129514591832447:=0
noncomputable def tw17797949193008363170:=0
noncomputable def tw17844127403668437886:=0
noncomputable def tw17893195813877059185:=0
noncomputable def tw17915777530783293488:=0
noncomputable def tw17947548277257101115:=0
noncomputable def tw1803564557303869094:=0
noncomputable def tw18042179136834683947:=0
noncomputable def tw18045344445844492320:=0
noncomputable def tw1805058083947611038:=0
noncomputable def tw18070591538268939370:=0
noncomputable def tw180834962911723683:=0
noncomputable def tw18090147820803105842:=0
noncomputable def tw18114158152458858872:=0
noncomputable def tw18180939322780285933:=0
noncomputable def tw18191154628745847202:=0
noncomputable def tw18224264146428388477:=0
noncomputable def tw182605609899506359:=0
noncomputable def tw18278982215072167443:=0
noncomputable def tw18297290243587307463:=0
noncomputable def tw18307453215053896739:=0
noncomputable def tw1832501329301472097:=0
noncomputable def tw18332539104876665853:=0
noncomputable def tw18335293330366811773:=0
noncomputable def tw18359726235780396066:=0
noncomputable def tw18382833912714925638:=0
noncomputable def tw1840320756920724929:=0
noncomputable def tw18405989871840325749:=0
noncomputable def tw18409204284812129655:=0
noncomputable def tw18422786344405558965:=0
noncomputable def tw1864192964899591139:=0
noncomputable def tw1879097354335003324:=0
noncomputable def tw1898010749130374891:=0
noncomputable def tw190848178444546097:=0
noncomputable def tw1948275035476174746:=0
noncomputable def tw194945823547924815:=0
noncomputable def tw2099390864967489772:=0
noncomputable def tw211062343002409935:=0
noncomputable def tw2209137515426906547:=0
noncomputable def tw2227277490514808296:=0
noncomputable def tw2228470874058570127:=0
noncomputable def tw222862375323808498:=0
noncomputable def tw2231763817229852378:=0
noncomputable def tw2233336364670459419:=0
noncomputable def tw2284075713299168355:=0
noncomputable def tw2296421905340127508:=0
noncomputable def tw2310597900096488997:=0
noncomputable def tw2370316928959617618:=0
noncomputable def tw241234201485581015:=0
noncomputable def tw2441148790687208369:=0
noncomputable def tw2460066758017940892:=0
noncomputable def tw2473578217250069047:=0
noncomputable def tw2477918222325950023:=0
noncomputable def tw2482323769437075826:=0
noncomputable def tw2483279041681115054:=0
noncomputable def tw2514479639833886177:=0
noncomputable def tw2553646612867246057:=0
noncomputable def tw2612745377109539852:=0
noncomputable def tw2631707566747168629:=0
noncomputable def tw2633873852812224483:=0
noncomputable def tw2667411666754603861:=0
noncomputable def tw2668996663821686444:=0
noncomputable def tw2754854830882640243:=0
noncomputable def tw2761822371314740066:=0
noncomputable def tw2782427868457988207:=0
noncomputable def tw2807249464076236743:=0
noncomputable def tw288028117047021259:=0
noncomputable def tw2887726898925595478:=0
noncomputable def tw3017952274160158669:=0
noncomputable def tw3047897417153044741:=0
noncomputable def tw3065142206880897420:=0
noncomputable def tw3065242906444523692:=0
noncomputable def tw3080289499337107261:=0
noncomputable def tw3097461720412070979:=0
noncomputable def tw3097842819650287057:=0
noncomputable def tw3113257629262045682:=0
noncomputable def tw3184325181956274599:=0
noncomputable def tw3234707288553376754:=0
noncomputable def tw3263045812600483988:=0
noncomputable def tw3290555505897922068:=0
noncomputable def tw3299603578364596557:=0
noncomputable def tw3361916791893101806:=0
noncomputable def tw3431525463611017447:=0
noncomputable def tw3450252972693165544:=0
noncomputable def tw352797537440756780:=0
noncomputable def tw355844930074606685:=0
noncomputable def tw3580395274252836068:=0
noncomputable def tw3611580610809054994:=0
noncomputable def tw3631692044306973539:=0
noncomputable def tw3633390819073504157:=0
noncomputable def tw364533423486603220:=0
noncomputable def tw3679292630389108650:=0
noncomputable def tw3688115030725102205:=0
noncomputable def tw3745882556109031459:=0
noncomputable def tw3810864899821162501:=0
noncomputable def tw3822638324949911213:=0
noncomputable def tw3836294184372725053:=0
noncomputable def tw3902519225079812842:=0
noncomputable def tw3910511370150391119:=0
noncomputable def tw3956119180433572416:=0
noncomputable def tw3963253761552698153:=0
noncomputable def tw3986508358762554583:=0
noncomputable def tw40003116182423854:=0
noncomputable def tw4018182319417663323:=0
noncomputable def tw4113672202347000749:=0
noncomputable def tw41621947623459918:=0
noncomputable def tw4238554627193255822:=0
noncomputable def tw4303930228564373406:=0
noncomputable def tw4309203826514330646:=0
noncomputable def tw4320967391205948323:=0
noncomputable def tw4329850054292152441:=0
noncomputable def tw4339673516551149879:=0
noncomputable def tw4458063656005351538:=0
noncomputable def tw4504214803329015565:=0
noncomputable def tw4512694417555199316:=0
noncomputable def tw4515185817704132541:=0
noncomputable def tw4542710851850549379:=0
noncomputable def tw4547541838276382755:=0
noncomputable def tw4608312819982442774:=0
noncomputable def tw4644424373480381893:=0
noncomputable def tw4689492898027388530:=0
noncomputable def tw4732524236746875743:=0
noncomputable def tw474655211429493898:=0
noncomputable def tw4759417481158819510:=0
noncomputable def tw4774740062720669897:=0
noncomputable def tw4777411456558039374:=0
noncomputable def tw4818077630239405816:=0
noncomputable def tw4821306264318829488:=0
noncomputable def tw4832012447924055456:=0
noncomputable def tw4844510522274097411:=0
noncomputable def tw4847120899002687992:=0
noncomputable def tw4859791880551888411:=0
noncomputable def tw4862678128773074937:=0
noncomputable def tw4927155823228744207:=0
noncomputable def tw4945293717233012757:=0
noncomputable def tw4967380540521386522:=0
noncomputable def tw4971744852157071144:=0
noncomputable def tw4979971947994179046:=0
noncomputable def tw4988249399840414250:=0
noncomputable def tw5004207080660649037:=0
noncomputable def tw5012106852506045704:=0
noncomputable def tw5033903190375515605:=0
noncomputable def tw506090343011557515:=0
noncomputable def tw506412133011081675:=0
noncomputable def tw507202195694584229:=0
noncomputable def tw5105125152077175525:=0
noncomputable def tw5172774756773640359:=0
noncomputable def tw5198595298932001626:=0
noncomputable def tw5205223521036992101:=0
noncomputable def tw5248045174712991165:=0
noncomputable def tw5261167283960433161:=0
noncomputable def tw5277363737269092956:=0
noncomputable def tw5336781020350016420:=0
noncomputable def tw5344839729229610155:=0
noncomputable def tw5365764371228115813:=0
noncomputable def tw5369151265054840070:=0
noncomputable def tw5377194246341264022:=0
noncomputable def tw5390162239589430602:=0
noncomputable def tw5392874196064899554:=0
noncomputable def tw5393000301261652026:=0
noncomputable def tw5413290835375012748:=0
noncomputable def tw5426592286144385877:=0
noncomputable def tw5430817535972294766:=0
noncomputable def tw5452203576311205129:=0
noncomputable def tw5457403765314400837:=0
noncomputable def tw5468172922911936864:=0
noncomputable def tw546945673211029548:=0
noncomputable def tw5497415376594526143:=0
noncomputable def tw552234525339760925:=0
noncomputable def tw5538499349426503269:=0
noncomputable def tw5569141125267305382:=0
noncomputable def tw5629394899992936895:=0
noncomputable def tw562977146120032428:=0
noncomputable def tw5646397273839895728:=0
noncomputable def tw5660709638915221404:=0
noncomputable def tw5682232863317314736:=0
noncomputable def tw5705510220903933518:=0
noncomputable def tw5749935742425154285:=0
noncomputable def tw5751629732356621025:=0
noncomputable def tw5757069030072356145:=0
noncomputable def tw5816356607713364119:=0
noncomputable def tw5868703076205957208:=0
noncomputable def tw5875378258251233205:=0
noncomputable def tw5910453362604316638:=0
noncomputable def tw5930108918879480333:=0
noncomputable def tw5938386587329108583:=0
noncomputable def tw5939219169992945092:=0
noncomputable def tw5948888602806052506:=0
noncomputable def tw5960708542243671882:=0
noncomputable def tw6025170836049900940:=0
noncomputable def tw6077365638177509651:=0
noncomputable def tw6118849241540966198:=0
noncomputable def tw6174927313673583854:=0
noncomputable def tw6211632846356592997:=0
noncomputable def tw6238329506655440387:=0
noncomputable def tw6245867285865017212:=0
noncomputable def tw62741046422170848:=0
noncomputable def tw6286198159506580333:=0
noncomputable def tw6326360511919137983:=0
noncomputable def tw6333761368968463397:=0
noncomputable def tw6338079303444015313:=0
noncomputable def tw6345089272959971:=0
noncomputable def tw6360332392528439112:=0
noncomputable def tw636196830979671236:=0
noncomputable def tw6383816371443978692:=0
noncomputable def tw6393750580401379752:=0
noncomputable def tw6423235185445880467:=0
noncomputable def tw6435260218661388340:=0
noncomputable def tw6440390835109141091:=0
noncomputable def tw6464598530514074859:=0
noncomputable def tw6472869056072731327:=0
noncomputable def tw6483217532215343691:=0
noncomputable def tw6485990562726661917:=0
noncomputable def tw6512308296825778195:=0
noncomputable def tw651795740584002938:=0
noncomputable def tw6550427958186981726:=0
noncomputable def tw6584083534580182621:=0
noncomputable def tw6585681065391140754:=0
noncomputable def tw6588589644023975143:=0
noncomputable def tw6604907222890653137:=0
noncomputable def tw6610450399130554033:=0
noncomputable def tw6644769619463118325:=0
noncomputable def tw6670412519656785860:=0
noncomputable def tw6692214707904012547:=0
noncomputable def tw6706771452705571825:=0
noncomputable def tw6707381572533038952:=0
noncomputable def tw6722055281917079002:=0
noncomputable def tw680191696278176990:=0
noncomputable def tw6808649859082691360:=0
noncomputable def tw6838531221790749547:=0
noncomputable def tw6854752937799449409:=0
noncomputable def tw6885340213612712187:=0
noncomputable def tw6887563227867927347:=0
noncomputable def tw6915717109308234028:=0
noncomputable def tw6943431335084895280:=0
noncomputable def tw6988668814573724450:=0
noncomputable def tw7027549315226134261:=0
noncomputable def tw7032921821714510011:=0
noncomputable def tw7036347166070075873:=0
noncomputable def tw7044761242791318635:=0
noncomputable def tw7059485359511633295:=0
noncomputable def tw7098847651302272320:=0
noncomputable def tw7148995389617773998:=0
noncomputable def tw7202404609961750668:=0
noncomputable def tw7208950937711078806:=0
noncomputable def tw7230873199964633175:=0
noncomputable def tw723305468070741199:=0
noncomputable def tw727724563905148782:=0
noncomputable def tw7368531070080157286:=0
noncomputable def tw7382572155718741439:=0
noncomputable def tw7382991112936946680:=0
noncomputable def tw7393788462613861317:=0
noncomputable def tw7412801012569638700:=0
noncomputable def tw7438603173410683481:=0
noncomputable def tw7441048280502049491:=0
noncomputable def tw7442164828981586873:=0
noncomputable def tw7476442285747601158:=0
noncomputable def tw7476803200130436072:=0
noncomputable def tw7498601177539202995:=0
noncomputable def tw7519314231004766374:=0
noncomputable def tw7569376505988225936:=0
noncomputable def tw760931300122208218:=0
noncomputable def tw7613594624107766925:=0
noncomputable def tw764959702906014385:=0
noncomputable def tw7653586979187121836:=0
noncomputable def tw7683257271550683746:=0
noncomputable def tw7685970312442092499:=0
noncomputable def tw7695282715252443595:=0
noncomputable def tw7708991532094604062:=0
noncomputable def tw7745705130980623260:=0
noncomputable def tw7749322656079784693:=0
noncomputable def tw7805878705725268416:=0
noncomputable def tw7811270866868274059:=0
noncomputable def tw7816355539681758485:=0
noncomputable def tw7821941782499081251:=0
noncomputable def tw784712541284971156:=0
noncomputable def tw793658453597528624:=0
noncomputable def tw7990558751210791734:=0
noncomputable def tw8054270077747516591:=0
noncomputable def tw8091384946028750361:=0
noncomputable def tw8118227059271285790:=0
noncomputable def tw8152970817715693565:=0
noncomputable def tw8210489408165058538:=0
noncomputable def tw8229650703703374764:=0
noncomputable def tw8269887949397619020:=0
noncomputable def tw8334626712293530797:=0
noncomputable def tw8348069650665427891:=0
noncomputable def tw8370409273155481797:=0
noncomputable def tw8414866982840264271:=0
noncomputable def tw8419353999908337814:=0
noncomputable def tw8422619017829674414:=0
noncomputable def tw8435478008356894952:=0
noncomputable def tw84719861493118160:=0
noncomputable def tw8487873764900309163:=0
noncomputable def tw8493921319206182603:=0
noncomputable def tw8518377555098287525:=0
noncomputable def tw852515132536268905:=0
noncomputable def tw8544765329875185508:=0
noncomputable def tw8577125166933453909:=0
noncomputable def tw8667206098885509434:=0
noncomputable def tw8725836613155251484:=0
noncomputable def tw8760924130382161939:=0
noncomputable def tw876713064672034281:=0
noncomputable def tw8813388143515485253:=0
noncomputable def tw886909620556361842:=0
noncomputable def tw8897288637753713658:=0
noncomputable def tw8927340211668058593:=0
noncomputable def tw8967643100070107134:=0
noncomputable def tw8970612525834793749:=0
noncomputable def tw8973738995598776156:=0
noncomputable def tw8992166332497889230:=0
noncomputable def tw9014434671862865480:=0
noncomputable def tw9015547639417854609:=0
noncomputable def tw9050133448247431119:=0
noncomputable def tw9054209190118457441:=0
noncomputable def tw9072788311067038560:=0
noncomputable def tw9082023135459344283:=0
noncomputable def tw9108679927136106828:=0
noncomputable def tw9111076958127370442:=0
noncomputable def tw9124847887272967735:=0
noncomputable def tw9128428805933491341:=0
noncomputable def tw9145912081535991900:=0
noncomputable def tw9196316392528394761:=0
noncomputable def tw9247136646084022854:=0
noncomputable def tw9249214069084836313:=0
noncomputable def tw9262199343971510270:=0
noncomputable def tw9294944185926058983:=0
noncomputable def tw9311988908897083237:=0
noncomputable def tw9360671521325520072:=0
noncomputable def tw9400860600656671227:=0
noncomputable def tw9408952156758655663:=0
noncomputable def tw9420837267813444858:=0
noncomputable def tw942795048017375131:=0
noncomputable def tw9440247710236718452:=0
noncomputable def tw95672968394277876:=0
noncomputable def tw9594661915084394650:=0
noncomputable def tw9623334040567736047:=0
noncomputable def tw9625058467373358418:=0
noncomputable def tw9646830861613203737:=0
noncomputable def tw9669246204575823683:=0
noncomputable def tw9669656170360930676:=0
noncomputable def tw9702510573012706197:=0
noncomputable def tw9704302177729751812:=0
noncomputable def tw9718908331121857336:=0
noncomputable def tw9757969254815488772:=0
noncomputable def tw9770732636232200533:=0
noncomputable def tw980945904276511306:=0
noncomputable def tw9863825648594407381:=0
noncomputable def tw9878620723785150594:=0
noncomputable def tw9923026749779815440:=0
end PySem.W.Fast
open PySem PySem.W PyProof.Rows
set_option maxRecDepth 100000 in
set_option maxHeartbeats 0 in
theorem PySem.Challenge.cw_turnline_k82_desk_refuses_holds : PySem.Challenge.rw_turnline_k82_desk_refuses.Holds := by
 w_on;o_law;k_head;(case hw=>w_witness2)
 k_fill
 refine K82.walk (l:=PySem.Challenge.rw_turnline_k82_desk_refuses) rfl rfl (λw h Y=>PySem.W.kIn_of Y) ?F
 case F=>
  intro w mg fa h KX G hmg
  refine' K82.all_mk KX G hmg ⟨?a1,?l1,?c1,?k1⟩ ⟨?a2,?l2,?c2,?k2⟩ ⟨?a3,?l3,?c3,?k3⟩ ⟨?a4,?l4,?c4,?k4⟩ ⟨?a5,?l5,?c5,?k5⟩ ⟨?a6,?l6,?c6,?k6⟩ ⟨?a7,?l7,?c7,?k7⟩ ⟨?a8,?l8,?c8,?k8⟩ ⟨?a9,?l9,?c9,?k9⟩ ⟨?a10,?l10,?c10,?k10⟩ ⟨?a11,?l11,?c11,?k11⟩ ⟨?a12,?l12,?c12,?k12⟩ ⟨?a13,?l13,?c13,?k13⟩ ⟨?a14,?l14,?c14,?k14⟩ ⟨?a15,?l15,?c15,?k15⟩ ⟨?a16,?l16,?c16,?k16⟩ ⟨?a17,?l17,?c17,?k17⟩ ⟨?a18,?l18,?c18,?k18⟩ ⟨?a19,?l19,?c19,?k19⟩ ⟨?a20,?l20,?c20,?k20⟩ ⟨?a21,?l21,?c21,?k21⟩ ⟨?a22,?l22,?c22,?k22⟩ ⟨?a23,?l23,?c23,?k23⟩ ⟨?a24,?l24,?c24,?k24⟩ ⟨?a25,?l25,?c25,?k25⟩ ⟨?a26,?l26,?c26,?k26⟩ ⟨?a27,?l27,?c27,?k27⟩ ⟨?a28,?l28,?c28,?k28⟩ ⟨?a29,?l29,?c29,?k29⟩ ⟨?a30,?l30,?c30,?k30⟩ ⟨?a31,?l31,?c31,?k31⟩ ⟨?a32,?l32,?c32,?k32⟩ ⟨?a33,?l33,?c33,?k33⟩ ⟨?a34,?l34,?c34,?k34⟩ ⟨?a35,?l35,?c35,?k35⟩ ⟨?a36,?l36,?c36,?k36⟩ ⟨?a37,?l37,?c37,?k37⟩ ⟨?a38,?l38,?c38,?k38⟩ ⟨?a39,?l39,?c39,?k39⟩ ⟨?a40,?l40,?c40,?k40⟩ ⟨?a41,?l41,?c41,?k41⟩ ⟨?a42,?l42,?c42,?k42⟩ ⟨?a43,?l43,?c43,?k43⟩ ⟨?a44,?l44,?c44,?k44⟩ ⟨?a45,?l45,?c45,?k45⟩ ⟨?a46,?l46,?c46,?k46⟩ ⟨?a47,?l47,?c47,?k47⟩ ⟨?a48,?l48,?c48,?k48⟩ ⟨?a49,?l49,?c49,?k49⟩ ⟨?a50,?l50,?c50,?k50⟩ ⟨?a51,?l51,?c51,?k51⟩ ⟨?a52,?l52,?c52,?k52⟩ ⟨?a53,?l53,?c53,?k53⟩ ⟨?a54,?l54,?c54,?k54⟩ ⟨?a55,?l55,?c55,?k55⟩ ⟨?a56,?l56,?c56,?k56⟩ ⟨?a57,?l57,?c57,?k57⟩ ⟨?a58,?l58,?c58,?k58⟩ ⟨?a59,?l59,?c59,?k59⟩ ⟨?a60,?l60,?c60,?k60⟩ ⟨?a61,?l61,?c61,?k61⟩ ⟨?a62,?l62,?c62,?k62⟩ ⟨?a63,?l63,?c63,?k63⟩ ⟨?a64,?l64,?c64,?k64⟩ ⟨?a65,?l65,?c65,?k65⟩ ⟨?a66,?l66,?c66,?k66⟩ ⟨?a67,?l67,?c67,?k67⟩ ⟨?a68,?l68,?c68,?k68⟩ ⟨?a69,?l69,?c69,?k69⟩ ⟨?a70,?l70,?c70,?k70⟩ ?z1 ?z2 ?z3 ?z4 ?z5 ?z6 ?z7 ?z8 ?z9 ?z10 ?z11 ?z12 ?z13 ?z14 ?z15 ?z16 ?z17 ?z18 ?z19 ?ve ?xb0 ?xb1 ?xb2 ?xb3 ?xb4 ?xb5 ?xb6 ?xb7 ?xd1 ?xd2 ?xd3 ?xd4 ?xd5 ?xd6 ?xd7 ?xe1 ?xe2 ?xe3 ?xe4 ?xe5 ?xe6 ?xe7 ?nd ?ck0 ?ck1 ?ck2 ?ck3 ?dn ?d1 ?d2 ?d3 ?d4 ?d5 ?d6 ?d7 ?d8 ?d9 ?d10 ?d11 ?d12 ?d13 ?mil ?mic ?mik ?msl ?msc ?msk ?ka0 ?kb0 ?kc0 ?ka1 ?kb1 ?kc1
  case a1|l1|c1|k1|a2|l2|c2|k2|a3|l3|c3|k3|a4|l4|c4|k4|a5|l5|c5|k5|a6|l6|c6|k6|a7|l7|c7|k7|a8|l8|c8|k8|a9|l9|c9|k9|a10|l10|c10|k10|a11|l11|c11|k11|a12|l12|c12|k12|a13|l13|c13|k13|a14|l14|c14|k14|a15|l15|c15|k15|a16|l16|c16|k16|a17|l17|c17|k17|a18|l18|c18|k18|a19|l19|c19|k19|a20|l20|c20|k20|a21|l21|c21|k21|a22|l22|c22|k22|a23|l23|c23|k23|a24|l24|c24|k24|a25|l25|c25|k25|a26|l26|c26|k26|a27|l27|c27|k27|a28|l28|c28|k28|a29|l29|c29|k29|a30|l30|c30|k30|a31|l31|c31|k31|a32|l32|c32|k32|a33|l33|c33|k33|a34|l34|c34|k34|a35|l35|c35|k35|a36|l36|c36|k36|a37|l37|c37|k37|a38|l38|c38|k38|a39|l39|c39|k39|a40|l40|c40|k40|a41|l41|c41|k41|a42|l42|c42|k42|a43|l43|c43|k43|a44|l44|c44|k44|a45|l45|c45|k45|a46|l46|c46|k46|a47|l47|c47|k47|a48|l48|c48|k48|a49|l49|c49|k49|a50|l50|c50|k50|a51|l51|c51|k51|a52|l52|c52|k52|a53|l53|c53|k53|a54|l54|c54|k54|a55|l55|c55|k55|a56|l56|c56|k56|a57|l57|c57|k57|a58|l58|c58|k58|a59|l59|c59|k59|a60|l60|c60|k60|a61|l61|c61|k61|a62|l62|c62|k62|a63|l63|c63|k63|a64|l64|c64|k64|a65|l65|c65|k65|a66|l66|c66|k66|a67|l67|c67|k67|a68|l68|c68|k68|a69|l69|c69|k69|a70|l70|c70|k70|z1|z2|z3|z4|z5|z6|z7|z8|z9|z10|z11|z12|z13|z14|z15|z16|z17|z18|z19=>k_is
  (case ve=>k_is)
  (case xb0=>refine'⟨?u1,?u2,?u3,?u4,?u5,?u6,?u7,?u8,?u9⟩;(case u1=>k_is);(case u2=>k_exc);(case u3=>k_is);(case u4=>k_is);(case u5=>k_is);(case u6=>k_is);(case u7=>k_is);(case u8=>k_is);(case u9=>k_is))
  (case xb1=>refine'⟨?u1,?u2,?u3,?u4,?u5,?u6,?u7,?u8,?u9⟩;(case u1=>k_is);(case u2=>k_exc);(case u3=>k_is);(case u4=>k_is);(case u5=>k_is);(case u6=>k_is);(case u7=>k_is);(case u8=>k_is);(case u9=>k_is))
  (case xb2=>refine'⟨?u1,?u2,?u3,?u4,?u5,?u6,?u7,?u8,?u9⟩;(case u1=>k_is);(case u2=>k_exc);(case u3=>k_is);(case u4=>k_is);(case u5=>k_is);(case u6=>k_is);(case u7=>k_is);(case u8=>k_is);(case u9=>k_is))
  (case xb3=>refine'⟨?u1,?u2,?u3,?u4,?u5,?u6,?u7,?u8,?u9⟩;(case u1=>k_is);(case u2=>k_exc);(case u3=>k_is);(case u4=>k_is);(case u5=>k_is);(case u6=>k_is);(case u7=>k_is);(case u8=>k_is);(case u9=>k_is))
  (case xb4=>refine'⟨?u1,?u2,?u3,?u4,?u5,?u6,?u7,?u8,?u9⟩;(case u1=>k_is);(case u2=>k_exc);(case u3=>k_is);(case u4=>k_is);(case u5=>k_is);(case u6=>k_is);(case u7=>k_is);(case u8=>k_is);(case u9=>k_is))
  (case xb5=>refine'⟨?u1,?u2,?u3,?u4,?u5,?u6,?u7,?u8,?u9⟩;(case u1=>k_is);(case u2=>k_exc);(case u3=>k_is);(case u4=>k_is);(case u5=>k_is);(case u6=>k_is);(case u7=>k_is);(case u8=>k_is);(case u9=>k_is))
  (case xb6=>refine'⟨?u1,?u2,?u3,?u4,?u5,?u6,?u7,?u8,?u9⟩;(case u1=>k_is);(case u2=>k_exc);(case u3=>k_is);(case u4=>k_is);(case u5=>k_is);(case u6=>k_is);(case u7=>k_is);(case u8=>k_is);(case u9=>k_is))
  (case xb7=>refine'⟨?u1,?u2,?u3,?u4,?u5,?u6,?u7,?u8,?u9⟩;(case u1=>k_is);(case u2=>k_exc);(case u3=>k_is);(case u4=>k_is);(case u5=>k_is);(case u6=>k_is);(case u7=>k_is);(case u8=>k_is);(case u9=>k_is))
  (case xd1=>refine'⟨?u1,?u2⟩;(case u1=>k_is);(case u2=>k_is))
  (case xd2=>refine'⟨?u1,?u2⟩;(case u1=>k_is);(case u2=>k_is))
  (case xd3=>refine'⟨?u1,?u2⟩;(case u1=>k_is);(case u2=>k_is))
  (case xd4=>refine'⟨?u1,?u2⟩;(case u1=>k_is);(case u2=>k_is))
  (case xd5=>refine'⟨?u1,?u2⟩;(case u1=>k_is);(case u2=>k_is))
  (case xd6=>refine'⟨?u1,?u2⟩;(case u1=>k_is);(case u2=>k_is))
  (case xd7=>refine'⟨?u1,?u2⟩;(case u1=>k_is);(case u2=>k_is))
  (case xe1=>refine'⟨?u1,?u2,?u3,?u4,?u5,?u6⟩;(case u1=>k_is);(case u2=>k_is);(case u3=>k_is);(case u4=>k_is);(case u5=>k_is);(case u6=>k_is))
  (case xe2=>refine'⟨?u1,?u2,?u3,?u4,?u5,?u6⟩;(case u1=>k_is);(case u2=>k_is);(case u3=>k_is);(case u4=>k_is);(case u5=>k_is);(case u6=>k_is))
  (case xe3=>refine'⟨?u1,?u2,?u3,?u4,?u5,?u6⟩;(case u1=>k_is);(case u2=>k_is);(case u3=>k_is);(case u4=>k_is);(case u5=>k_is);(case u6=>k_is))
  (case xe4=>refine'⟨?u1,?u2,?u3,?u4,?u5,?u6⟩;(case u1=>k_is);(case u2=>k_is);(case u3=>k_is);(case u4=>k_is);(case u5=>k_is);(case u6=>k_is))
  (case xe5=>refine'⟨?u1,?u2,?u3,?u4,?u5,?u6⟩;(case u1=>k_is);(case u2=>k_is);(case u3=>k_is);(case u4=>k_is);(case u5=>k_is);(case u6=>k_is))
  (case xe6=>refine'⟨?u1,?u2,?u3,?u4,?u5,?u6⟩;(case u1=>k_is);(case u2=>k_is);(case u3=>k_is);(case u4=>k_is);(case u5=>k_is);(case u6=>k_is))
  (case xe7=>refine'⟨?u1,?u2,?u3,?u4,?u5,?u6⟩;(case u1=>k_is);(case u2=>k_is);(case u3=>k_is);(case u4=>k_is);(case u5=>k_is);(case u6=>k_is))
  (case nd=>decide)
  (case ck0=>k_is)
  (case ck1=>k_is)
  (case ck2=>k_is)
  (case ck3=>k_is)
  (case dn=>first |k_is |rfl |decide)
  (case d1=>first |k_is |rfl |decide)
  (case d2=>first |k_is |rfl |decide)
  (case d3=>first |k_is |rfl |decide)
  (case d4=>first |k_is |rfl |decide)
  (case d5=>first |k_is |rfl |decide)
  (case d6=>first |k_is |rfl |decide)
  (case d7=>first |k_is |rfl |decide)
  (case d8=>first |k_is |rfl |decide)
  (case d9=>first |k_is |rfl |decide)
  (case d10=>first |k_is |rfl |decide)
  (case d11=>first |k_is |rfl |decide)
  (case d12=>first |k_is |rfl |decide)
  (case d13=>first |k_is |rfl |decide)
  (case mil=>first |k_is |rfl |decide)
  (case mic=>first |k_is |rfl |decide)
  (case mik=>first |k_is |rfl |decide)
  (case msl=>first |k_is |rfl |decide)
  (case msc=>first |k_is |rfl |decide)
  (case msk=>first |k_is |rfl |decide)
  (case ka0=>first |k_is |rfl |decide)
  (case kb0=>first |k_is |rfl |decide)
  (case kc0=>first |k_is |rfl |decide)
  (case ka1=>first |k_is |rfl |decide)
  (case kb1=>first |k_is |rfl |decide)
  (case kc1=>first |k_is |rfl |decide)

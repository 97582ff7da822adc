import PyProof.Rows.All
import Wide.All
import OpenK.AllK
import Wide.FinOn
import PyProof.EqAt
import PyProof.EqKinds
import PyProof.TupleCall
import PyProof.CompFree
import PyProof.EvalArms
import KE.BitLaws
import OpenK.KOwn
import KE.KIsAll
import PyProof.ExcArgsOwn
import PyProof.IsiH_list
import PyProof.NsDelKeeps
import PyProof.ExcAttrAll.ValueError
import PyProof.ExcBaseAll.ValueError
import PyProof.ZipIter
import PyProof.Rows.SumAny
import KE.LcSums
import PyProof.SetRoads
import PyProof.Rows.SetFrom
import KE.KSetDisp
import PyProof.DictIter
import PyProof.DictRoadsH
import PyProof.Rows.TupDisplay
import PyProof.FString
import PyProof.FactsAll.list_1
import PyProof.CollectWalk
import PyProof.StrWalks
import PyProof.StrLawsTight
import PyProof.StrLawsChain
import PyProof.StrLawsIn
import PyProof.StrCalls2
import PyProof.StrBlockG
import PyProof.SliceStr2
import KE.KIntText
import PyProof.CollectIter
import PyProof.Walks
import PyProof.SetKind
import PyProof.TupleKey
import PyProof.IsRules
import PyProof.SetNew
import PyProof.StrOps2
import PyProof.Rows.Range3
import PyProof.DictCompW
import KE.KDictSum
import PyProof.Rows.SeqMore
import PyProof.DictItems
import KE.KPairComp
import KE.KDictList
import PyProof.WalkInts
import PyProof.Rows.SortRuns
import KE.KSortAsk
import PyProof.Rows.StrRules
import KE.KSortTup
import PyProof.NeKinds
import KE.KRevIter
import PyProof.FactsAll.range_2
import PyProof.Rows.FactsN_abs
import PySem.Challenge.RW_turnline_k14_more_standings_than_are_gon
noncomputable abbrev aa:=@List.length_map
noncomputable abbrev ae:=@PySem.wpAny_bind
noncomputable abbrev af:=@List.getElem?_eq_some_iff
noncomputable abbrev ag:=@List.getElem?_eq_getElem
noncomputable abbrev ah:=@List.getElem?_map
noncomputable abbrev aj:=@PySem.wpAny_pure
noncomputable abbrev ak:=@List.length_append
noncomputable abbrev ao:=@List.mem_map
noncomputable abbrev aq:=@List.getElem?_append_left
noncomputable abbrev ar:=@Nat.le_refl
noncomputable abbrev au:=@List.mem_of_getElem?
noncomputable abbrev av:=@List.map_append
noncomputable abbrev aw:=@List.mem_cons_of_mem
noncomputable abbrev ax:=@PySem.Heap.get?_push_of_some
noncomputable abbrev ay:=@List.getElem?_append_right
noncomputable abbrev az:=@List.mem_append_right
noncomputable abbrev aA:=@PySem.Heap.lt_size
noncomputable abbrev aB:=@Bool.false_ne_true
noncomputable abbrev aC:=@List.mem_cons_self
noncomputable abbrev aD:=@List.mem_append
noncomputable abbrev aE:=@List.mem_cons
noncomputable abbrev aF:=@List.getD_eq_getElem?_getD
noncomputable abbrev aG:=@if_neg
noncomputable abbrev aH:=@PySem.F.plainAttrs_list
noncomputable abbrev aI:=@Nat.zero_le
noncomputable abbrev aJ:=@Classical.byContradiction
noncomputable abbrev aK:=@List.size_toArray
noncomputable abbrev aL:=@Nat.ne_of_lt
noncomputable abbrev aM:=@List.length_take
noncomputable abbrev aN:=@PySem.PassesOwn.never
noncomputable abbrev aO:=@List.length_cons
noncomputable abbrev aP:=@List.length_singleton
noncomputable abbrev aQ:=@if_pos
noncomputable abbrev aR:=@PySem.Heap.get?_push_size
noncomputable abbrev aS:=@Array.length_toList
noncomputable abbrev aT:=@Bool.false_eq_true
noncomputable abbrev aU:=@Nat.lt_of_lt_of_le
noncomputable abbrev aV:=@List.take_add_one
noncomputable abbrev aW:=@decide_eq_false
noncomputable abbrev aX:=@List.take_length
noncomputable abbrev aY:=@PySem.W.mg_none_of
noncomputable abbrev aZ:=@List.map_cons
noncomputable abbrev bc:=@Option.some.inj
noncomputable abbrev bf:=@PySem.wpAny_mono
noncomputable abbrev bg:=@List.getElem?_eq_none
noncomputable abbrev bh:=@PySem.F.type_list_append
noncomputable abbrev bj:=@PySem.F.slot_list_append
noncomputable abbrev bo:=@List.map_map
noncomputable abbrev bq:=@List.nodup_cons
noncomputable abbrev br:=@List.mem_range
noncomputable abbrev bu:=@Nat.sub_self
noncomputable abbrev bw:=@Nat.le_trans
noncomputable abbrev bx:=@Array.getElem?_eq_some_iff
noncomputable abbrev bz:=@List.mem_append_left
noncomputable abbrev bA:=@List.length_drop
noncomputable abbrev bB:=@decide_eq_true
noncomputable abbrev bC:=@Array.getElem?_toList
noncomputable abbrev bD:=@Array.getElem?_eq_getElem
noncomputable abbrev bE:=@List.mem_filter
noncomputable abbrev bF:=@List.mem_iff_getElem
noncomputable abbrev bG:=@if_false
noncomputable abbrev bH:=@List.mem_singleton
noncomputable abbrev bI:=@Ne.symm
noncomputable abbrev bJ:=@List.lookup_cons
noncomputable abbrev bK:=@Nat.le_of_lt
noncomputable abbrev bL:=@Nat.lt_of_le_of_lt
noncomputable abbrev bM:=@List.length_dropLast
noncomputable abbrev bN:=@Bool.eq_iff_iff
noncomputable abbrev bO:=@List.prefix_refl
noncomputable abbrev bP:=@List.replicate_succ
noncomputable abbrev bQ:=@List.nodup_append
noncomputable abbrev bR:=@PySem.wpAny_call_entry
noncomputable abbrev bS:=@List.length_filter_le
noncomputable abbrev bT:=@List.dropLast_sublist
noncomputable abbrev bU:=@Nat.mul_assoc
noncomputable abbrev bV:=@List.length_zip
noncomputable abbrev bW:=@PySem.wpAny_newObj_type
noncomputable abbrev bX:=@PySem.Paired.length
noncomputable abbrev bY:=@List.getElem_map
noncomputable abbrev bZ:=@PyProof.Rows.callWith_type1
noncomputable abbrev b9:=@PySem.F.slot_dict_keyiterator_next
noncomputable abbrev cb:=@PyProof.Rows.boot_tuple
noncomputable abbrev cc:=@Bool.not_true
noncomputable abbrev cf:=@congrArg
noncomputable abbrev cg:=@PySem.F.excBase_ValueError
noncomputable abbrev cj:=@List.take_of_length_le
noncomputable abbrev ck:=@List.length_range
noncomputable abbrev cm:=@List.find?_cons_of_neg
noncomputable abbrev cq:=@List.find?_cons
noncomputable abbrev cu:=@PySem.boot_len
noncomputable abbrev cw:=@decide_eq_true_iff
noncomputable abbrev cx:=@List.all_eq_true
noncomputable abbrev cy:=@PySem.sizeLine_eq
noncomputable abbrev cz:=@List.nodup_nil
noncomputable abbrev cA:=@PySem.wpAny_comprehension_free
noncomputable abbrev cB:=@PySem.mem_of_lookup
noncomputable abbrev cC:=@PySem.F.slot_dict_itemiterator_next
noncomputable abbrev cD:=@List.find?_cons_of_pos
noncomputable abbrev cE:=@List.getElem_inj
noncomputable abbrev cF:=@Int.emod_lt_of_pos
noncomputable abbrev cG:=@List.take_append_drop
noncomputable abbrev cH:=@List.dropLast_eq_take
noncomputable abbrev cI:=@List.getElem?_zip_eq_some
noncomputable abbrev cJ:=@List.forIn_cons
noncomputable abbrev cK:=@List.pairwise_map
noncomputable abbrev cL:=@List.mem_erase_of_ne
noncomputable abbrev cM:=@List.foldl_append
noncomputable abbrev cN:=@List.append_assoc
noncomputable abbrev cO:=@Nat.mod_lt
noncomputable abbrev cP:=@List.length_erase_of_mem
noncomputable abbrev cQ:=@List.toList_toArray
noncomputable abbrev cR:=@List.length_reverse
noncomputable abbrev cS:=@PySem.wpAny_truthy_bool
noncomputable abbrev cT:=@List.not_mem_nil
noncomputable abbrev cU:=@PySem.wpAny_standAt
noncomputable abbrev cV:=@if_true
noncomputable abbrev cW:=@Nat.ne_of_gt
noncomputable abbrev cX:=@List.prefix_append
noncomputable abbrev cY:=@List.getElem?_drop
noncomputable abbrev cZ:=@PySem.wpAny_typeNameOfWhole_itemiter
noncomputable abbrev de:=@PyProof.Rows.boot_list
noncomputable abbrev df:=@PyProof.Rows.boot_isinstance
noncomputable abbrev dg:=@Int.emod_nonneg
noncomputable abbrev di:=@Nat.lt_irrefl
noncomputable abbrev dj:=@Int.emod_add_mul_ediv
noncomputable abbrev dk:=@PySem.wpAny_typeNameOfWhole_keyiter
noncomputable abbrev dq:=@decide_eq_true_eq
noncomputable abbrev dt:=@List.reverse_cons
noncomputable abbrev dw:=@List.flatten_cons
noncomputable abbrev dy:=@Int.toNat_natCast
noncomputable abbrev dz:=@PySem.wpAny_passesOwn
noncomputable abbrev dA:=@Nat.pow_le_pow_right
noncomputable abbrev dB:=@List.mem_of_mem_take
noncomputable abbrev dC:=@Int.sub_mul
noncomputable abbrev dD:=@PySem.wpAny_holding
noncomputable abbrev dE:=@Nat.le_add_right
noncomputable abbrev dF:=@Bool.and_eq_true
noncomputable abbrev dG:=@PySem.wpAny_dictEntries
noncomputable abbrev dH:=@List.pairwise_iff_getElem
noncomputable abbrev dN:=@List.filterMap_cons
noncomputable abbrev dO:=@PySem.wpAny_newFunctionEnv
noncomputable abbrev dQ:=@PySem.F.slot_list_insert
noncomputable abbrev dR:=@List.Pairwise.imp_of_mem
noncomputable abbrev dS:=@List.append_nil
noncomputable abbrev dU:=@Array.forIn_toList
noncomputable abbrev dX:=@PySem.wpAny_typeNameOf_itemiter
noncomputable abbrev dY:=@PySem.Heap.SameBut.update
noncomputable abbrev dZ:=@PySem.wpAny_typeNameOf_keyiter
noncomputable abbrev d8:=@PySem.SetTable.toList_insertAt
noncomputable abbrev d9:=@Nat.zero_add
noncomputable abbrev ed:=@Nat.pow_succ
noncomputable abbrev ef:=@List.ext_getElem?
noncomputable abbrev eg:=@PySem.wpAny_specialOf
noncomputable abbrev eh:=@PySem.wpAny_execs_nil
noncomputable abbrev en:=@PySem.wpAny_dictEpoch
noncomputable abbrev eo:=@PySem.wpAny_setField_rec
noncomputable abbrev eu:=@PySem.tupleKind_room_in1
noncomputable abbrev ez:=@PySem.wpAny_callSpecial?_slot
noncomputable abbrev eA:=@List.mem_iff_getElem?
noncomputable abbrev eB:=@beq_self_eq_true
noncomputable abbrev eC:=@Nat.mod_eq_of_lt
noncomputable abbrev eD:=@Int.min_eq_right
noncomputable abbrev eE:=@Int.max_eq_right
noncomputable abbrev eG:=@List.map_take
noncomputable abbrev eI:=@List.map_drop
noncomputable abbrev eJ:=@PySem.wpAny_setState_of
noncomputable abbrev eK:=@List.mem_of_mem_drop
noncomputable abbrev eL:=@List.getElem?_set_ne
noncomputable abbrev eM:=@PySem.F.slot_tuple_hash
noncomputable abbrev eN:=@PySem.Calls.callWith_builtin
noncomputable abbrev eO:=@Option.map_some
noncomputable abbrev eQ:=@List.length_nil
noncomputable abbrev eR:=@List.foldl_cons
noncomputable abbrev eS:=@Int.min_eq_left
noncomputable abbrev eT:=@Int.max_eq_left
noncomputable abbrev eU:=@beq_eq_false_iff_ne
noncomputable abbrev eV:=@List.map_congr_left
noncomputable abbrev eW:=@List.getElem?_range
noncomputable abbrev eX:=@List.filter_sublist
noncomputable abbrev eY:=@PySem.wpAny_isInstance
noncomputable abbrev eZ:=@PySem.call_meets
noncomputable abbrev fb:=@Nat.add_zero
noncomputable abbrev fc:=@beq_iff_eq
noncomputable abbrev fe:=@Prod.ext
noncomputable abbrev fi:=@List.mem_filterMap
noncomputable abbrev fj:=@PySem.F.slot_dict_getitem
noncomputable abbrev fk:=@List.mem_of_find?_eq_some
noncomputable abbrev fm:=@List.getLastD_eq_getLast?
noncomputable abbrev fo:=@of_decide_eq_true
noncomputable abbrev fq:=@Option.isSome_map
noncomputable abbrev ft:=@List.getElem_take
noncomputable abbrev fu:=@PySem.F.type_list_insert
noncomputable abbrev fv:=@Option.isSome_iff_exists
noncomputable abbrev fw:=@Nat.lt_succ_iff_lt_or_eq
noncomputable abbrev fx:=@List.getElem?_take_of_lt
noncomputable abbrev fy:=@PySem.wpAny_Call_Name_kw
noncomputable abbrev fz:=@List.nodup_range
noncomputable abbrev fA:=@List.map_reverse
noncomputable abbrev fB:=@List.getElem_mem
noncomputable abbrev fC:=@List.getElem?_cons_succ
set_option Elab.async false
set_option linter.all false
set_option maxRecDepth 100000
namespace L2
open PySem PySem.Spec PyProof.Rows
noncomputable abbrev Key:=Sum Int Str
noncomputable def wZ:Key->Value->Bool
 |.inl k,v=>Value.isInt k v
 |.inr x,v=>Value.isStrOf x v
noncomputable def Ox (w:World):Key->Int
 |.inl k=>hashInt k
 |.inr x=>hashStr w x
theorem iO:∀ {k:Key}{v:Value},wZ k v=true->(∃ i t,k=Sum.inl i/\v=Value.int i t)\/(∃ x t,k=Sum.inr x/\v=Value.str x t)
 |.inl i,v,h=>by
  obtain⟨t,e⟩:=Value.isInt_shape (k:=i) (v:=v) h
  exact .inl ⟨i,t,rfl,e⟩
 |.inr x,v,h=>by
  obtain⟨t,e⟩:=Value.isStrOf_shape (x:=x) (v:=v) h
  exact .inr ⟨x,t,rfl,e⟩
theorem CN (i:Int)(t:Tok):wZ (.inl i) (.int i t)=true:=by simp[wZ,Value.isInt]
theorem CM (x:Str)(t:Tok):wZ (.inr x) (.str x t)=true:=by simp[wZ,Value.isStrOf]
theorem Iy (a b:Int):decide ((Sum.inl a:Key)=Sum.inl b)=(a==b):=by
 by_cases e:a=b
 ·subst e;simp
 ·have h:¬(Sum.inl a:Key)=Sum.inl b:=λq=>e (Sum.inl.inj q)
  rw[aW h]
  exact(eU.mpr e).symm
theorem Iu (a b:Str):decide ((Sum.inr a:Key)=Sum.inr b)=decide (a=b):=by
 by_cases e:a=b
 ·subst e;simp
 ·have h:¬(Sum.inr a:Key)=Sum.inr b:=λq=>e (Sum.inr.inj q)
  rw[aW h,aW e]
theorem Iw (a:Int)(b:Str):decide ((Sum.inl a:Key)=Sum.inr b)=false:=aW (λq=>nomatch q)
theorem Iv (a:Str)(b:Int):decide ((Sum.inr a:Key)=Sum.inl b)=false:=aW (λq=>nomatch q)
noncomputable def gu (prog:Program)(w:World):PySem.KeyKind prog w Key where
 is:=wZ
 hash:=Ox w
 inj:=λv a b ha hb=>by
  rcases iO ha with⟨i,t,rfl,rfl⟩|⟨x,t,rfl,rfl⟩
  ·rcases iO hb with⟨j,u,rfl,e⟩|⟨y,u,rfl,e⟩
   ·injection e with e1 _;rw[e1]
   ·exact nomatch e
  ·rcases iO hb with⟨j,u,rfl,e⟩|⟨y,u,rfl,e⟩
   ·exact nomatch e
   ·injection e with e1 _;rw[e1]
 byValue:=λk v h=>by
  rcases iO h with⟨i,t,rfl,rfl⟩|⟨x,t,rfl,rfl⟩<;>rfl
 pyHash:=λhv h=>by
  rcases iO hv with⟨i,t,rfl,rfl⟩|⟨x,t,rfl,rfl⟩
  ·exact wpAny_pyHash_int h
  ·exact wpAny_pyHash_str h
 eqBool:=λhu hv h=>by
  rcases iO hu with⟨i,t,rfl,rfl⟩|⟨x,t,rfl,rfl⟩
  ·rcases iO hv with⟨j,u,rfl,rfl⟩|⟨y,u,rfl,rfl⟩
   ·rw[Iy]at h;exact wpAny_eqBool_int h
   ·rw[Iw]at h;exact SeqAt.EqAt.int_str i t y u _ _ _ _ h
  ·rcases iO hv with⟨j,u,rfl,rfl⟩|⟨y,u,rfl,rfl⟩
   ·rw[Iv]at h;exact SeqAt.EqAt.str_int x t j u _ _ _ _ h
   ·rw[Iu]at h;exact wpAny_eqBool_str h
 «strs» :=λk x t v h=>by
  rcases iO h with⟨i,u,rfl,e⟩|⟨y,u,rfl,e⟩
  ·exact nomatch e
  ·injection e with e1 _
   subst e1
   cases v<;>rfl
theorem zo (prog:Program)(w:World)(i:Int)(t:Tok):(gu prog w).is (.inl i) (.int i t)=true:=CN i t
theorem zm (prog:Program)(w:World)(x:Str)(t:Tok):(gu prog w).is (.inr x) (.str x t)=true:=CM x t
inductive V where
 |non |bl (b:Bool)|int (i:Int)|str (x:Str)|byt (b:Array UInt8)|flt (b:UInt64)|ref (a:Addr)|ty (n:String)
 deriving DecidableEq
noncomputable def RelV:V->Value->Prop
 |.non,u=>u=Value.none
 |.bl b,u=>u=Value.bool b
 |.int i,u=>∃ t,u=Value.int i t
 |.str x,u=>∃ t,u=Value.str x t
 |.byt b,u=>∃ t,u=Value.bytes b t
 |.flt b,u=>∃ t,u=Value.float b t
 |.ref a,u=>u=Value.ref a
 |.ty n,u=>u=Value.type n
noncomputable abbrev Vals:List V->List Value->Prop:=Paired RelV
variable {us:List Value}
theorem Vals.length {xs:List V}(r:Vals xs us):xs.length=us.length:=bX r
theorem Vals.get:∀ {xs:List V}{us:List Value}{i:Nat}{x:V},Vals xs us->xs[i]? = some x->∃ u,us[i]? = some u/\RelV x u
 |_,_,_,_,.nil,e=>by simp at e
 |_,_,0,_,.cons r _,e=>by simp at e;subst e;exact⟨_,rfl,r⟩
 |_,_,i+1,x,.cons _ t,e=>by
  obtain⟨u,h1,h2⟩:=Vals.get (i:=i) (x:=x) t (by simpa using e)
  exact⟨u,by simpa using h1,h2⟩
theorem Vals.append:∀ {xs ys:List V}{us ws:List Value},Vals xs us->Vals ys ws->Vals (xs++ys) (us++ws)
 |_,_,_,_,.nil,s=>s
 |_,_,_,_,.cons r t,s=>.cons r (Vals.append t s)
theorem Vals.take:∀ {xs:List V}{us:List Value} (n:Nat),Vals xs us->Vals (xs.take n) (us.take n)
 |_,_,0,_=>.nil
 |_,_,_+1,.nil=>.nil
 |_,_,n+1,.cons r t=>.cons r (Vals.take n t)
theorem Vals.drop:∀ {xs:List V}{us:List Value} (n:Nat),Vals xs us->Vals (xs.drop n) (us.drop n)
 |_,_,0,r=>r
 |_,_,_+1,.nil=>.nil
 |_,_,n+1,.cons _ t=>Vals.drop n t
noncomputable def rS:Option V->Option Value->Prop
 |some v,some u=>RelV v u
 |none,none=>True
 |_,_=>False
noncomputable def KV {κ:Type} :List (κ×V)->List (κ×Value)->Prop:=Paired λ(p:κ×V) (q:κ×Value)=>p.1=q.1/\RelV p.2 q.2
noncomputable def kV:Key->V
 |.inl i=>.int i
 |.inr x=>.str x
inductive HO where
 /-- a list -/
 |lst (xs:List V)
 /-- a tuple (never changes) -/
 |tup (xs:List V)
 /-- a dict Jo keys are ints and texts;one Jo keys are tuples of ints and texts (the empty one is both) -/
 |dK (kvs:List (Key×V))|dT (kvs:List (List Key×V))
 /-- a set of ints:its members,its size -/
 |set (S:Int->Bool) (n:Nat)
 /-- an instance of the class at C,its dict at dx,its attributes -/
 |ins (C dx:Addr) (fs:List (Str×V))
 /-- the dict of the instance at x -/
 |own (x:Addr)
 /-- the dict of an exception -/
 |xd (fs:List (Str×V))
 /-- a bound method,f of x -/
 |met (f x:Addr)
 /-- a range object lo,lo+1,.. below hi -/
 |rng (lo hi:Int)
 /-- a Jv Sm is known to the object (the Mc;a dict while a loop walks it):read,never written while it is so -/
 |frz (o:Obj) (u:HO)
 /-- a code J8 table -/
 |tbl (ps:Array Value)
 /-- any other Jv,by Sl is true of its one object (a def of Sk own:qi a S n:=HO.ext λh=>..) -/
 |ext (φ:Heap->Prop)
noncomputable abbrev Hp:=Addr->Option HO
noncomputable def upd (H:Hp)(a:Addr)(o:HO):Hp:=λb=>if b=a then some o else H b
variable {H:Hp}{a:Addr}{o:HO}
theorem fE:upd H a o a=some o:=by unfold upd;rw[aQ rfl]
variable {b:Addr}
theorem fK (h:b≠a):upd H a o b=H b:=by unfold upd;rw[aG h]
theorem qK {u:HO} :upd (upd H a o) a u=upd H a u:=by
 funext b;unfold upd;split<;>rfl
theorem gy {u:HO}(h:H a=some o)(h':H b=some u)(d:o≠u):a≠b:=by
 intro e;subst e;rw[h]at h';exact d (bc h')
theorem fN (h:H a=some o)(h':H b=none):a≠b:=by
 intro e;subst e;rw[h]at h';cases h'
section
variable (P:Program)(w:World)
noncomputable def iR (H:Hp)(h:Heap)(a:Addr):HO->Prop
 |.lst xs=>xs.length<=sizeLine/\∃ (its:List Value) (n:Nat),Vals xs its/\h.get? a=some {cls:=.type "list",data:=.seq its.toArray n}
 |.tup xs=>xs.length<=sizeLine/\∃ its:List Value,Vals xs its/\IsTup h a its.toArray
 |.dK kvs=>kvs.length<=sizeLine/\(a==sysModules)=false/\∃ vs,KV kvs vs/\h.DictOf (gu P w) a vs
 |.dT kvs=>kvs.length<=sizeLine/\(a==sysModules)=false/\∃ xs:List (List Key×Addr×Value),
   Paired (λ(p:List Key×V) (q:List Key×Addr×Value)=>p.1=q.1/\H q.2.1=some (.tup (p.1.map kV))/\RelV p.2 q.2.2) kvs xs/\
   ∃ o es ep,h.get? a=some o/\o.ExactDict/\o.data = .dict es ep/\es.toList=xs.map (entryOfKey (tupleKind (gu P w)))/\(xs.map (·.1)).Nodup
 |.set S n=>h.SetOf (intKind P w) a S n
 |.ins C dx fs=>H dx=some (.own a)/\fs.length<=1000/\dx≠a/\h.get? a=some (PySem.W.instObj C dx)/\
   ∃ mA,h.Ns1 dx mA/\(∀ f,rS (fs.lookup f) (mA f))/\PySem.Within mA (fs.map (·.1))
 |.own _=>∃ o,h.get? a=some o
 |.xd fs=>∃ mA,h.Ns1 a mA/\∀ f,rS (fs.lookup f) (mA f)
 |.rng lo hi=>∃ t u v,h.get? a=some {cls:=.type "range",data:=.fields #[.int lo t,.int hi u,.int 1 v]}
 |.frz o u=>h.get? a=some o/\iR H h a u
 |.tbl ps=>h.get? a=some {cls:=.none,data:=.fields ps}
 |.met f x=>h.get? a=some (PySem.W.methodObj (.ref f) (.ref x))
 |.ext φ=>φ h/\(∃ o,h.get? a=some o)/\∀ h1 h2:Heap,φ h1->(∀ o,h1.get? a=some o->h2.get? a=some o)->φ h2
noncomputable def HOk (H:Hp)(h:Heap):Prop:=∀ a o,H a=some o->iR P w H h a o
end
section
variable {P:Program}{w:World}{H H':Hp}{h h':Heap}{a:Addr}{o:HO}
theorem iR.lt (x:iR P w H h a o):a<h.objs.size:=by
 cases o with
 |lst xs=>obtain⟨_,_,_,_,e⟩:=x;exact aA e
 |tup xs=>obtain⟨_,_,_,p⟩:=x;exact p.lt
 |dK kvs=>obtain⟨_,_,_,_,o,_,_,e,_⟩:=x;exact aA e
 |dT kvs=>obtain⟨_,_,_,_,o,_,_,e,_⟩:=x;exact aA e
 |set S n=>obtain⟨o,_,_,_,e,_⟩:=x;exact aA e
 |ins C dx fs=>obtain⟨_,_,_,e,_⟩:=x;exact aA e
 |own y=>obtain⟨_,e⟩:=x;exact aA e
 |xd fs=>obtain⟨_,⟨_,_,_,e,_⟩,_⟩:=x;exact aA e
 |rng lo hi=>obtain⟨_,_,_,e⟩:=x;exact aA e
 |frz ob u=>obtain⟨e,_⟩:=x;exact aA e
 |tbl ps=>exact aA (show h.get? a=some _ from x)
 |met f y=>exact aA (show h.get? a=some _ from x)
 |ext φ=>obtain⟨_,⟨_,e⟩,_⟩:=x;exact aA e
theorem Paired.Im {α β:Type}{F G:α->β->Prop} :∀ {l₁:List α}{l₂:List β},Paired F l₁ l₂->(∀ a b,F a b->G a b)->Paired G l₁ l₂
 |_,_,.nil,_=>.nil
 |_,_,.cons r t,f=>.cons (f _ _ r) (Paired.Im t f)
theorem iR.qh (x:iR P w H h a o)(k:∀ b u,(b=a\/H b=some (.own a))->h.get? b=some u->h'.get? b=some u)
  (ho:∀ b,H b=some (.own a)->H' b=some (.own a)) (ht:∀ b xs,H b=some (.tup xs)->H' b=some (.tup xs)):iR P w H' h' a o:=by
 induction o with
 |lst xs=>obtain⟨z,its,n,r,e⟩:=x;exact⟨z,its,n,r,k _ _ (.inl rfl) e⟩
 |tup xs=>obtain⟨z,its,r,ob,e,c⟩:=x;exact⟨z,its,r,ob,k _ _ (.inl rfl) e,c⟩
 |dK kvs=>obtain⟨z,y,vs,r,ob,es,ep,e,c⟩:=x;exact⟨z,y,vs,r,ob,es,ep,k _ _ (.inl rfl) e,c⟩
 |dT kvs=>
  obtain⟨z,y,xs,r,ob,es,ep,e,c⟩:=x
  exact⟨z,y,xs,Paired.Im r λp q z=>⟨z.1,ht _ _ z.2.1,z.2.2⟩,ob,es,ep,k _ _ (.inl rfl) e,c⟩
 |set S n=>obtain⟨ob,es,ep,t,e,c⟩:=x;exact⟨ob,es,ep,t,k _ _ (.inl rfl) e,c⟩
 |ins C dx fs=>
  obtain⟨d,z,ne,e,mA,⟨od,es,ep,e2,c⟩,r⟩:=x
  exact⟨ho _ d,z,ne,k _ _ (.inl rfl) e,mA,⟨od,es,ep,k _ _ (.inr d) e2,c⟩,r⟩
 |own y=>obtain⟨ob,e⟩:=x;exact⟨ob,k _ _ (.inl rfl) e⟩
 |xd fs=>obtain⟨mA,⟨od,es,ep,e,c⟩,r⟩:=x;exact⟨mA,⟨od,es,ep,k _ _ (.inl rfl) e,c⟩,r⟩
 |rng lo hi=>obtain⟨t,u,v,e⟩:=x;exact⟨t,u,v,k _ _ (.inl rfl) e⟩
 |frz ob u ih=>obtain⟨e,q⟩:=x;exact⟨k _ _ (.inl rfl) e,ih q⟩
 |tbl ps=>
  have e:h.get? a=some {cls:=.none,data:=.fields ps} :=x
  show h'.get? a=some {cls:=.none,data:=.fields ps}
  exact k a _ (.inl rfl) e
 |met f y=>
  have e:h.get? a=some (PySem.W.methodObj (.ref f) (.ref y)):=x
  show h'.get? a=some (PySem.W.methodObj (.ref f) (.ref y))
  exact k a _ (.inl rfl) e
 |ext φ=>obtain⟨p,⟨o,e⟩,st⟩:=x;exact⟨st _ _ p λo q=>k _ _ (.inl rfl) q,⟨o,k _ _ (.inl rfl) e⟩,st⟩
theorem HOk.lt (x:HOk P w H h)(e:H a=some o):a<h.objs.size:=(x a o e).lt
theorem HOk.fresh (x:HOk P w H h)(e:h.objs.size<=a):H a=none:=by
 cases q:H a with
 |none=>rfl
 |some u=>exact absurd (aU (x.lt q) e) (di _)
theorem HOk.kept (x:HOk P w H h)(k:∀ b u,h.get? b=some u->h'.get? b=some u):HOk P w H h':=λa o e=>
 (x a o e).qh (λb u _ q=>k b u q) (λ_ q=>q) λ_ _ q=>q
theorem HOk.laid (x:HOk P w H h)(k:∀ b u,h.get? b=some u->h'.get? b=some u)(hp:h.objs.size<=a)(new:iR P w (upd H a o) h' a o):HOk P w (upd H a o) h':=λb u e=>by
 have hn:=x.fresh hp
 by_cases hb:b=a
 ·subst hb;rw[fE]at e;cases e;exact new
 ·rw[fK hb]at e
  exact(x b u e).qh (λc v _ q=>k c v q) (λc q=>by rw[fK (fN q hn)];exact q) λc xs q=>by rw[fK (fN q hn)];exact q
end
noncomputable def Rd (H:Hp)(a:Addr)(u:HO):Prop:=H a=some u\/∃ o,H a=some (.frz o u)
variable {P:Program}{w:World}
theorem Rd.ok {h:Heap}{u:HO}(r:Rd H a u)(x:HOk P w H h):iR P w H h a u:=by
 rcases r with r |⟨o,r⟩
 ·exact x a u r
 ·obtain⟨_,q⟩:=x a _ r
  exact q
noncomputable def Mut:Option HO->Prop
 |some (.lst _)=>True
 |some (.dK _)=>True
 |some (.dT _)=>True
 |some (.set _ _)=>True
 |some (.ins _ _ _)=>True
 |some (.ext _)=>True
 |_=>False
section
variable {P:Program}{w:World}{H:Hp}{h h':Heap}{x e:Addr}{o':HO}
theorem HOk.write (ok:HOk P w H h)(mu:Mut (H x))(he:e=x\/H e=some (.own x))(k:∀ b u,b≠e->h.get? b=some u->h'.get? b=some u)(heo:∃ u,h'.get? e=some u)
  (new:iR P w (upd H x o') h' x o'):HOk P w (upd H x o') h':=λb u q=>by
 have J9:∀ c y,H c=some (.own y)->c≠x:=λc y r z=>by subst z;rw[r]at mu;exact mu
 have Of:∀ c xs,H c=some (.tup xs)->c≠x:=λc xs r z=>by subst z;rw[r]at mu;exact mu
 by_cases hb:b=x
 ·subst hb;rw[fE]at q;cases q;exact new
 ·rw[fK hb]at q
  by_cases hbe:b=e
  ·have q':H b=some (.own x):=by
    rcases he with z |z
    ·exact absurd (hbe.trans z) hb
    ·rw[hbe];exact z
   rw[q]at q';cases q'
   obtain⟨v,hv⟩:=heo
   exact⟨v,by rw[hbe];exact hv⟩
  ·refine(ok b u q).qh (λc v hc r=>k c v ?_ r) (λc r=>by rw[fK (J9 c b r)];exact r) λc xs r=>by rw[fK (Of c xs r)];exact r
   rcases hc with rfl |hc
   ·exact hbe
   ·rintro rfl
    rcases he with z |z
    ·exact J9 c b hc z
    ·rw[hc]at z;cases z;exact hb rfl
end
structure Un (fs ex:List Addr)(H H':Hp)(h h':Heap):Prop where
 keep:∀ b o,h.get? b=some o->H b=none->b∉fs->b∉ex->h'.get? b=some o
 slot:∀ b o,h.get? b=some o->H b=none->b∈fs->b∉ex->∃ sl,h'.get? b=some {o with slots:=sl}
 free:∀ b o,h.get? b=some o->H b=none->b∉ex->H' b=none
 there:∀ b o,h.get? b=some o->b∉ex->∃ o',h'.get? b=some o'
 kH:∀ b xs,H b=some (.tup xs)->H' b=some (.tup xs)
 oP:∀ b o u,H b=some (.frz o u)->H' b=some (.frz o u)
 qv:∀ b ps,H b=some (.tbl ps)->∃ more,H' b=some (.tbl (ps++more))
section
variable {fs fs' ex ex':List Addr}{H H1 H2:Hp}{h h1 h2 h':Heap}{a x e:Addr}{o:HO}
theorem Un.any (u:Un fs ex H H1 h h1){ob:Obj}(q:h.get? b=some ob)(n:H b=none)(hx:b∉ex):∃ sl,h1.get? b=some {ob with slots:=sl} :=by
 by_cases hb:b∈fs
 ·exact u.slot b ob q n hb hx
 ·exact⟨ob.slots,u.keep b ob q n hb hx⟩
theorem Un.trans (a:Un fs ex H H1 h h1)(b:Un fs ex H1 H2 h1 h2):Un fs ex H H2 h h2 where
 keep:=λc ob q n hc hx=>b.keep c ob (a.keep c ob q n hc hx) (a.free c ob q n hx) hc hx
 slot:=λc ob q n hc hx=>by
  obtain⟨sl,e1⟩:=a.slot c ob q n hc hx
  obtain⟨sl',e2⟩:=b.slot c _ e1 (a.free c ob q n hx) hc hx
  exact⟨sl',e2⟩
 free:=λc ob q n hx=>by
  obtain⟨o',e1⟩:=a.there c ob q hx
  exact b.free c o' e1 (a.free c ob q n hx) hx
 there:=λc ob q hx=>by
  obtain⟨o',e1⟩:=a.there c ob q hx
  exact b.there c o' e1 hx
 kH:=λc xs q=>b.kH c xs (a.kH c xs q)
 oP:=λc ob xs q=>b.oP c ob xs (a.oP c ob xs q)
 qv:=λc ps q=>by
  obtain⟨m1,e1⟩:=a.qv c ps q
  obtain⟨m2,e2⟩:=b.qv c _ e1
  exact⟨m1++m2,by rw[e2,Array.append_assoc]⟩
theorem Un.kept (k:∀ b u,h.get? b=some u->h'.get? b=some u):Un fs ex H H h h':=
 ⟨λb ob q _ _ _=>k b ob q,λb ob q _ _ _=>⟨ob.slots,k b ob q⟩,λ_ _ _ n _=>n,λb ob q _=>⟨ob,k b ob q⟩,λ_ _ q=>q,λ_ _ _ q=>q,λ_ ps q=>⟨#[],by rw[q];simp⟩⟩
theorem Un.refl:Un fs ex H H h h:=Un.kept λ_ _ q=>q
theorem Un.laid (k:∀ b u,h.get? b=some u->h'.get? b=some u)(hp:h.objs.size<=a)(hn:H a=none):Un fs ex H (upd H a o) h h' where
 keep:=λb u q _ _ _=>k b u q
 slot:=λb u q _ _ _=>⟨u.slots,k b u q⟩
 free:=λb u q n _=>by rw[fK (aL (aU (aA q) hp))];exact n
 there:=λb u q _=>⟨u,k b u q⟩
 kH:=λb xs q=>by rw[fK (fN q hn)];exact q
 oP:=λb u xs q=>by rw[fK (fN q hn)];exact q
 qv:=λb ps q=>⟨#[],by rw[fK (fN q hn),q];simp⟩
theorem Un.write (mu:Mut (H x))(he:e=x\/H e=some (.own x))(k:∀ b u,b≠e->h.get? b=some u->h'.get? b=some u)(heo:∃ u,h'.get? e=some u):Un fs ex H (upd H x o) h h':=by
 have hx:∀ b,H b=none->b≠x:=λb n z=>by subst z;rw[n]at mu;exact mu
 have hb:∀ b,H b=none->b≠e:=λb n z=>by
  subst z
  rcases he with r |r
  ·exact hx b n r
  ·rw[n]at r;cases r
 have hm:∀ b u,H b=some u->¬Mut (some u)->b≠x:=λb u q nm z=>by subst z;rw[q]at mu;exact nm mu
 refine⟨λb u q n _ _=>k b u (hb b n) q,λb u q n _ _=>⟨u.slots,k b u (hb b n) q⟩,λb u q n _=>by rw[fK (hx b n)];exact n,λb u q _=>?_,
  λb xs q=>by rw[fK (hm b _ q λz=>z)];exact q,λb u xs q=>by rw[fK (hm b _ q λz=>z)];exact q,λb ps q=>⟨#[],by rw[fK (hm b _ q λz=>z),q];simp⟩⟩
 by_cases hbe:b=e
 ·subst hbe;exact heo
 ·exact⟨u,k b u hbe q⟩
end
noncomputable def trk (h:Heap)(H:Hp):List Addr:=(List.range h.objs.size).filter λa=>(H a).isSome
noncomputable def yh (h:Heap)(H:Hp):Heap:=PySem.W.hideAll h (trk h H)
theorem CT (h:Heap)(H:Hp):(yh h H).objs.size=h.objs.size:=PySem.W.hideAll_size _ _
theorem EW {h:Heap}{o:Obj}(e:h.get? b=some o)(n:H b=none):(yh h H).get? b=some o:=
 PySem.W.hideAll_get _ e λhm=>by
  have q:(H b).isSome=true:=(bE.mp hm).2
  rw[n]at q;simp at q
theorem Gf {h:Heap}{o:Obj}(e:(yh h H).get? b=some o):h.get? b=some o/\H b=none:=by
 have e':h.get? b=some o:=PySem.W.of_hideAll (trk h H) e
 refine⟨e',?_⟩
 cases q:H b with
 |none=>rfl
 |some x=>
  have hm:b∈trk h H:=bE.mpr ⟨br.mpr (aA e'),by simp[q]⟩
  have z:(yh h H).get? b=none:=PySem.W.hideAll_none (trk h H) hm
  rw[z]at e;cases e
structure Mod (K:PySem.W.Frag)(mg:Str->Option Value)(base:Heap):Prop where
 kin:K.In base
 glob:base.Ns mainGlobals mg
 blt:∃ mb,base.Ns builtinsNs mb/\∀ x:Str,x≠ "__name__" ->mb x=bootBuiltins x
 nolimit:base.NoLimit
structure Cx where
 prog:Program
 w:World
 K:PySem.W.Frag
 mg:Str->Option Value
 base:Heap
 A:Around
 N:List Str
 s₀:Shared
 H₀:Hp
 env:Env
 outer:List Env
 stack:List Env
 ex:List Addr
 fn:Str->Bool
 calm:Bool
 pn:List (Addr×Obj)
 xe:Value->Shared->Prop
noncomputable def frs (l:List Env):List Addr:=l.filterMap (·.frame)
noncomputable abbrev Cx.fs (X:Cx):List Addr:=frs X.outer
noncomputable def Vis (sc:Scope)(x:Str):Prop:=sc.names.lookup x=some .local\/sc.names.lookup x=some .cell\/sc.names.lookup x=some .free
noncomputable def Loc (sc:Scope)(x:Str):Prop:=sc.names.lookup x=some .local\/sc.names.lookup x=some .cell
noncomputable def Look (env:Env)(h:Heap)(m:Str->Option Value)(x:Str)(u:Value):Prop:=
 (env.kindOf x=some .local/\m x=some u)\/((env.kindOf x=some .cell\/env.kindOf x=some .free)/\∃ c,env.cells.lookup x=some c/\h.IsCell c (some u))
structure Cx.Ok (X:Cx):Prop where
 mod:Mod X.K X.mg X.base
 kind:X.env.scope.kind = .function
 glob:X.env.globals=mainGlobals
 blt:X.env.builtins=builtinsNs
 above:X.s₀.heap.objs.size<=X.env.locals
 inj:∀ x y c,X.env.cells.lookup x=some c->X.env.cells.lookup y=some c->x=y
 has:∀ x,(X.env.kindOf x=some .cell\/X.env.kindOf x=some .free)->∃ c,X.env.cells.lookup x=some c
 cab:∀ x c,X.fn x=true->X.env.cells.lookup x=some c->X.s₀.heap.objs.size<=c
 hd:X.calm=true->X.A.handled=none
 frames:X.A.frames=some X.stack
 stk:X.stack=X.outer\/(X.stack=X.env::X.outer/\X.env.frame=some X.env.locals)
 exf:∀ b∈X.ex,b≠X.env.locals/\∀ x c,X.env.cells.lookup x=some c->c≠b
 bs:∀ b o,X.base.get? b=some o->X.s₀.heap.get? b=some o/\X.H₀ b=none
 bsz:X.base.objs.size<=X.s₀.heap.objs.size
 AE:∀ b o,X.base.get? b=some o->b∉X.ex
 CW:∀ b∈X.ex,b∉X.fs
 sy:X.s₀.heap.FunFrames X.base X.outer
 frf:∀ b∈X.fs,X.H₀ b=none
structure Inv (X:Cx)(pins:List (Addr×Obj))(σ:List (Option V))(H:Hp)(s:Shared):Prop where
 ok:X.Ok
 os:s.os=X.s₀.os
 bare:AllBare s.gens
 base:Un X.fs X.ex X.H₀ H X.s₀.heap s.heap
 loc:∃ m,s.heap.Ns X.env.locals m/\∀ (i:Nat) (x:Str) (v:V),X.N[i]? = some x->σ[i]? = some (some v)->Vis X.env.scope x->∃ u,RelV v u/\Look X.env s.heap m x u
 cell:∀ x c,X.env.cells.lookup x=some c->∃ v,s.heap.IsCell c v
 free:H X.env.locals=none
 kC:∀ x c,X.env.cells.lookup x=some c->H c=none
 pin:∀ p∈X.pn++pins,s.heap.get? p.1=some p.2/\H p.1=none/\p.1≠X.env.locals/\p.1∉X.fs/\∀ v,p.2.data≠ .cell v
 hok:HOk X.prog X.w H s.heap
 len:σ.length=X.N.length
variable {x:Str}{u:Value}
section
variable {X:Cx}{pins:List (Addr×Obj)}{σ:List (Option V)}{H H':Hp}{s:Shared}{h':Heap}
theorem Cx.Ok.Oj (ok:X.Ok){o:Obj}(e:X.base.get? b=some o):b∉X.fs:=λhb=>by
 have:=(ok.sy.mem hb).1
 rw[e]at this;cases this
theorem Inv.bs (I:Inv X pins σ H s):∀ b o,X.base.get? b=some o->s.heap.get? b=some o/\H b=none:=λb o e=>
 ⟨I.base.keep b o (I.ok.bs b o e).1 (I.ok.bs b o e).2 (I.ok.Oj e) (I.ok.AE b o e),I.base.free b o (I.ok.bs b o e).1 (I.ok.bs b o e).2 (I.ok.AE b o e)⟩
theorem Inv.bk (I:Inv X pins σ H s):∀ b o,X.base.get? b=some o->s.heap.get? b=some o:=λb o e=>(I.bs b o e).1
theorem Inv.mod (I:Inv X pins σ H s):Mod X.K X.mg X.base:=I.ok.mod
theorem Inv.kIn (I:Inv X pins σ H s):X.K.In s.heap:=I.ok.mod.kin.keeps I.bk
theorem Inv.lt (I:Inv X pins σ H s):X.env.locals<s.heap.objs.size:=let ⟨_,hn,_⟩:=I.loc;hn.lt
theorem Inv.sz (I:Inv X pins σ H s):X.s₀.heap.objs.size<=s.heap.objs.size:=bw I.ok.above (bK I.lt)
theorem Inv.Oi (I:Inv X pins σ H s)(h:s.heap.objs.size<=a):a∉X.fs:=λhb=>by
 obtain⟨_,o,ho,_⟩:=I.ok.sy.mem hb
 exact absurd (aU (aA ho) (bw I.sz h)) (di _)
theorem Inv.cne (I:Inv X pins σ H s):∀ x c,X.env.cells.lookup x=some c->c≠X.env.locals:=λx c e z=>by
 obtain⟨v,o,ho,hd⟩:=I.cell x c e
 obtain⟨m,⟨o',es,ep,ho',hd',_⟩,_⟩:=I.loc
 rw[z,ho']at ho;cases ho;rw[hd']at hd;cases hd
theorem Inv.sy (I:Inv X pins σ H s):s.heap.FunFrames X.base X.outer:=by
 have all:∀ (l:List Env),(∀ b∈frs l,b∈X.fs)->X.s₀.heap.FunFrames X.base l->s.heap.FunFrames X.base l:=by
  intro l
  induction l with
  |nil=>intro _ _;trivial
  |cons env r ih=>
   intro hs hl
   obtain⟨hk,⟨L,o,hf,hn,ho,hd⟩,hr⟩:=hl
   have hL:L∈X.fs:=hs L (by unfold frs;rw[dN,hf];exact aC)
   obtain⟨sl,e⟩:=I.base.slot L o ho (I.ok.frf L hL) hL λz=>I.ok.CW L z hL
   exact⟨hk,⟨L,_,hf,hn,e,hd⟩,ih (λb hb=>hs b (by unfold frs;rw[dN,hf];exact aw _ hb)) hr⟩
 exact all X.outer (λ_ hb=>hb) I.ok.sy
theorem Inv.stack (I:Inv X pins σ H s):s.heap.FunFrames X.base X.stack:=by
 rcases I.ok.stk with e |⟨e,hf⟩
 ·rw[e];exact I.sy
 ·rw[e]
  obtain⟨m,hn,_⟩:=I.loc
  refine .cons (by rw[I.ok.kind];decide) hf hn ?_ I.sy
  exact Heap.get?_none_of_le (bw I.ok.bsz I.ok.above)
theorem Inv.nv (I:Inv X pins σ H s):∀ b∈frs X.stack,b∈X.env.locals::X.fs:=λb hb=>by
 rcases I.ok.stk with e |⟨e,hf⟩
 ·rw[e]at hb;exact aw _ hb
 ·rw[e]at hb
  unfold frs at hb
  rw[dN,hf]at hb
  exact hb
theorem Inv.xw (I:Inv X pins σ H s):∀ b∈frs X.stack,H b=none:=λb hb=>by
 rcases aE.mp (I.nv b hb)with e |hb
 ·rw[e];exact I.free
 ·obtain⟨_,o,ho,_⟩:=I.ok.sy.mem hb
  exact I.base.free b o ho (I.ok.frf b hb) λz=>I.ok.CW b z hb
theorem Inv.step {g':Array GenState}{t':Nat}{d':Drawn}{ch:List Addr}(I:Inv X pins σ H s)
  (hch:∀ b∈ch,(b∈X.ex\/X.s₀.heap.objs.size<=b)/\b≠X.env.locals/\(∀ x c,X.env.cells.lookup x=some c->c≠b)/\∀ p∈X.pn++pins,p.1≠b)
  (keep:∀ b o,b≠X.env.locals->b∉X.fs->b∉ch->s.heap.get? b=some o->H b=none->h'.get? b=some o)
  (slot:∀ b o,b≠X.env.locals->b∈X.fs->b∉ch->s.heap.get? b=some o->H b=none->∃ sl,h'.get? b=some {o with slots:=sl}) (free:∀ b o,b∉ch->s.heap.get? b=some o->H b=none->H' b=none)
  (there:∀ b o,b∉ch->s.heap.get? b=some o->∃ o',h'.get? b=some o')
  (kH:∀ b xs,H b=some (.tup xs)->H' b=some (.tup xs)) (oP:∀ b o u,H b=some (.frz o u)->H' b=some (.frz o u)) (qv:∀ b ps,H b=some (.tbl ps)->∃ more,H' b=some (.tbl (ps++more)))
  (ns:∀ m,s.heap.Ns X.env.locals m->h'.Ns X.env.locals m) (hok:HOk X.prog X.w H' h') (hg:AllBare g'):
  Inv X pins σ H' {s with heap:=h',gens:=g',drawn:=d',toks:=t'} :=by
 have neL:∀ b o,X.s₀.heap.get? b=some o->b≠X.env.locals:=λb o e=>aL (aU (aA e) I.ok.above)
 have neC:∀ b o,X.s₀.heap.get? b=some o->b∉X.ex->b∉ch:=λb o e hx hb=>by
  rcases(hch b hb).1 with z |z
  ·exact hx z
  ·exact absurd (aU (aA e) z) (di _)
 have cellK:∀ x c,X.env.cells.lookup x=some c->∀ v,s.heap.IsCell c v->h'.IsCell c v:=λx c e v ⟨o,ho,hd⟩=>by
  have nch:c∉ch:=λz=>(hch c z).2.2.1 x c e rfl
  by_cases hc:c∈X.fs
  ·obtain⟨sl,q⟩:=slot c o (I.cne x c e) hc nch ho (I.kC x c e)
   exact⟨_,q,hd⟩
  ·exact⟨o,keep c o (I.cne x c e) hc nch ho (I.kC x c e),hd⟩
 refine⟨I.ok,I.os,hg,⟨λb o e n hb hx=>?_,λb o e n hb hx=>?_,λb o e n hx=>?_,λb o e hx=>?_,λb xs e=>kH b xs (I.base.kH b xs e),λb o xs e=>oP b o xs (I.base.oP b o xs e),λb ps e=>?_⟩,?_,λx c e=>?_,?_,λx c e=>?_,λp hp=>?_,hok,I.len⟩
 ·exact keep b o (neL b o e) hb (neC b o e hx) (I.base.keep b o e n hb hx) (I.base.free b o e n hx)
 ·obtain⟨sl,e1⟩:=I.base.slot b o e n hb hx
  obtain⟨sl',e2⟩:=slot b _ (neL b o e) hb (neC b o e hx) e1 (I.base.free b o e n hx)
  exact⟨sl',e2⟩
 ·obtain⟨o',e1⟩:=I.base.there b o e hx
  exact free b o' (neC b o e hx) e1 (I.base.free b o e n hx)
 ·obtain⟨o',e1⟩:=I.base.there b o e hx
  exact there b o' (neC b o e hx) e1
 ·obtain⟨m1,e1⟩:=I.base.qv b ps e
  obtain⟨m2,e2⟩:=qv b _ e1
  exact⟨m1++m2,by rw[e2,Array.append_assoc]⟩
 ·obtain⟨m,hn,hl⟩:=I.loc
  refine⟨m,ns m hn,λi x v e1 e2 e3=>?_⟩
  obtain⟨u,r,l⟩:=hl i x v e1 e2 e3
  refine⟨u,r,?_⟩
  rcases l with l |⟨k,c,e,z⟩
  ·exact .inl l
  ·exact .inr ⟨k,c,e,cellK x c e _ z⟩
 ·obtain⟨v,z⟩:=I.cell x c e
  exact⟨v,cellK x c e v z⟩
 ·obtain⟨m,⟨o,_,_,ho,_⟩,_⟩:=I.loc
  exact free _ o (λz=>(hch _ z).2.1 rfl) ho I.free
 ·obtain⟨v,o,ho,hd⟩:=I.cell x c e
  exact free c o (λz=>(hch c z).2.2.1 x c e rfl) ho (I.kC x c e)
 ·obtain⟨e,n,ne,nf,d⟩:=I.pin p hp
  have nch:p.1∉ch:=λz=>(hch p.1 z).2.2.2 p hp rfl
  exact⟨keep p.1 p.2 ne nf nch e n,free p.1 p.2 nch e n,ne,nf,d⟩
theorem Inv.un {t':Nat}(I:Inv X pins σ H s)(u:Un X.fs [] H H' s.heap h')(hok:HOk X.prog X.w H' h'):Inv X pins σ H' {s with heap:=h',toks:=t'} :=by
 obtain⟨m,⟨o,es,ep,ho,r⟩,_⟩:=id I.loc
 obtain⟨sl,hL⟩:=u.any ho I.free (by simp)
 exact I.step (g':=s.gens) (d':=s.drawn) (ch:=[]) (λ_ z=>nomatch z) (λb o _ hb _ e n=>u.keep b o e n hb (by simp)) (λb o _ hb _ e n=>u.slot b o e n hb (by simp)) (λb o _ e n=>u.free b o e n (by simp)) (λb o _ e=>u.there b o e (by simp)) u.kH u.oP u.qv (λm' hm=>by
  obtain⟨o',es',ep',ho',r'⟩:=hm
  rw[ho]at ho';cases ho'
  exact⟨_,es',ep',hL,r'⟩) hok I.bare
theorem Inv.call {g':Array GenState}{t':Nat}{d':Drawn}{ch:List Addr}(I:Inv X pins σ H s)(u:Un (frs X.stack) ch H H' s.heap h')(hok:HOk X.prog X.w H' h')(hg:AllBare g')
  (hch:∀ b∈ch,(b∈X.ex\/X.s₀.heap.objs.size<=b)/\b≠X.env.locals/\(∀ x c,X.env.cells.lookup x=some c->c≠b)/\∀ p∈X.pn++pins,p.1≠b):
  Inv X pins σ H' {s with heap:=h',gens:=g',drawn:=d',toks:=t'} :=by
 obtain⟨m,⟨o,es,ep,ho,r⟩,_⟩:=id I.loc
 obtain⟨sl,hL⟩:=u.any ho I.free λz=>(hch _ z).2.1 rfl
 exact I.step (ch:=ch) hch (λb o hL hb hc e n=>u.keep b o e n (λz=>(aE.mp (I.nv b z)).elim hL hb) hc) (λb o _ _ hc e n=>u.any e n hc) (λb o hc e n=>u.free b o e n hc) (λb o hc e=>u.there b o e hc) u.kH u.oP u.qv (λm' hm=>by
  obtain⟨o',es',ep',ho',r'⟩:=hm
  rw[ho]at ho';cases ho'
  exact⟨_,es',ep',hL,r'⟩) hok hg
theorem Inv.turned {t':Nat}{it:Addr}(I:Inv X pins σ H s)(k:∀ b o,b≠it->s.heap.get? b=some o->h'.get? b=some o)(hn:H it=none)(hL:it≠X.env.locals)
  (h1:it∈X.ex\/X.s₀.heap.objs.size<=it) (h2:∀ x c,X.env.cells.lookup x=some c->c≠it) (h3:∀ p∈X.pn++pins,p.1≠it):Inv X pins σ H {s with heap:=h',toks:=t'} :=by
 have nit:∀ b u,H b=some u->b≠it:=λb u e z=>by rw[z,hn]at e;cases e
 refine I.step (g':=s.gens) (d':=s.drawn) (ch:=[it]) (λb hb=>?_) (λb o _ _ hc e _=>k b o (λz=>hc (by simp[z])) e) (λb o _ _ hc e _=>⟨o.slots,k b o (λz=>hc (by simp[z])) e⟩) (λ_ _ _ _ n=>n)
  (λb o hc e=>⟨o,k b o (λz=>hc (by simp[z])) e⟩) (λ_ _ e=>e) (λ_ _ _ e=>e) (λb ps e=>⟨#[],by rw[e];simp⟩) (λm hm=>?_) (λb u e=>?_) I.bare
 ·have e:b=it:=by simpa using hb
  subst e
  exact⟨h1,hL,h2,h3⟩
 ·obtain⟨o,es,ep,ho,r⟩:=hm
  exact⟨o,es,ep,k _ o (bI hL) ho,r⟩
 ·refine(I.hok b u e).qh (λc v hc q=>k c v ?_ q) (λ_ q=>q) λ_ _ q=>q
  rcases hc with z |z
  ·rw[z];exact nit b u e
  ·exact nit c _ z
theorem Inv.tok (I:Inv X pins σ H s)(t:Nat):Inv X pins σ H {s with toks:=t} :=I.un (h':=s.heap) (t':=t) Un.refl I.hok
theorem Inv.kept {t':Nat}(I:Inv X pins σ H s)(k:∀ b u,s.heap.get? b=some u->h'.get? b=some u):Inv X pins σ H {s with heap:=h',toks:=t'} :=I.un (Un.kept k) (I.hok.kept k)
theorem Inv.laid {t':Nat}(I:Inv X pins σ H s)(k:∀ b u,s.heap.get? b=some u->h'.get? b=some u)(hp:s.heap.objs.size<=a)(new:iR X.prog X.w (upd H a o) h' a o):
  Inv X pins σ (upd H a o) {s with heap:=h',toks:=t'} :=I.un (Un.laid k hp (I.hok.fresh hp)) (I.hok.laid k hp new)
theorem Inv.write {x e:Addr}{t':Nat}(I:Inv X pins σ H s)(mu:Mut (H x))(he:e=x\/H e=some (.own x))(k:∀ b u,b≠e->s.heap.get? b=some u->h'.get? b=some u)(heo:∃ u,h'.get? e=some u)
  (new:iR X.prog X.w (upd H x o) h' x o):Inv X pins σ (upd H x o) {s with heap:=h',toks:=t'} :=I.un (Un.write mu he k heo) (I.hok.write mu he k heo new)
theorem Inv.weak {σ':List (Option V)}(I:Inv X pins σ H s)(hl:σ'.length=σ.length)(w:∀ (i:Nat) v,σ'[i]? = some (some v)->σ[i]? = some (some v)):Inv X pins σ' H s:=
 ⟨I.ok,I.os,I.bare,I.base,let ⟨m,hn,hl'⟩:=I.loc;⟨m,hn,λi x v e1 e2 e3=>hl' i x v e1 (w i v e2) e3⟩,I.cell,I.free,I.kC,I.pin,I.hok,hl.trans I.len⟩
theorem Inv.Bu {sT:List (Addr×Obj)}(I:Inv X pins σ H s)(h:∀ p∈sT,s.heap.get? p.1=some p.2/\H p.1=none/\p.1≠X.env.locals/\p.1∉X.fs/\∀ v,p.2.data≠ .cell v):Inv X sT σ H s:=
 ⟨I.ok,I.os,I.bare,I.base,I.loc,I.cell,I.free,I.kC,λp hp=>(aD.mp hp).elim (λz=>I.pin p (bz _ z)) (h p),I.hok,I.len⟩
theorem uU {N:List Str}(hN:N.Nodup){i j:Nat}(a:N[i]? = some x)(b:N[j]? = some x):i=j:=by
 obtain⟨h1,e1⟩:=af.mp a
 obtain⟨h2,e2⟩:=af.mp b
 exact(cE hN).mp (e1.trans e2.symm)
theorem rZ {M:Model}{A:Around}{E:Value->Shared->Prop}{i:Nat}{v:V}{Q:Unit->Shared->Prop}(I:Inv X pins σ H s)(hN:X.N.Nodup)(hi:X.N[i]? = some x)(hx:Loc X.env.scope x)(r:RelV v u)
  (h:∀ s',Inv X pins (σ.set i (some v)) H s'->(∃ a,Heap.SameBut a s.heap s'.heap/\(a=X.env.locals\/X.env.cells.lookup x=some a))->Q () s') (hf:X.fn x=true\/X.env.scope.names.lookup x=some .local:=by first |exact .inl rfl |exact .inr rfl |assumption):wpAny M A (storeName X.env x u) Q E s:=by
 obtain⟨m,hn,hl⟩:=id I.loc
 have IT:(X.env.scope.kind == .class||(X.env.scope.kind == .module&&X.env.locals !=X.env.globals))=false:=by rw[I.ok.kind];rfl
 have hiσ:i<σ.length:=by rw[I.len];exact(af.mp hi).1
 have cne:=I.cne
 have tracked:∀ {a:Addr}{h':Heap},(∃ o,s.heap.get? a=some o/\H a=none)->Heap.SameBut a s.heap h'->HOk X.prog X.w H h':=λ{a h'} ha hs b ob e=>by
  obtain⟨_,_,kL⟩:=ha
  refine(I.hok b ob e).qh (λc w' hc q=>(hs.2 c ?_).trans q) (λ_ q=>q) λ_ _ q=>q
  rintro rfl
  rcases hc with rfl |hc
  ·rw[kL]at e;cases e
  ·rw[kL]at hc;cases hc
 rcases hx with hk |hk
 ·refine wpAny_storeName_local hk hn (λh' hn' hs=>?_) IT
  obtain⟨oL,_,_,hoL,_⟩:=id hn
  refine h _ ⟨I.ok,I.os,I.bare,⟨λb o e n hb hx=>?_,λb o e n hb hx=>?_,I.base.free,λb o e hx=>?_,I.base.kH,I.base.oP,I.base.qv⟩,⟨_,hn',λj y v' e1 e2 e3=>?_⟩,λy c e=>?_,I.free,I.kC,λp hp=>?_,tracked ⟨oL,hoL,I.free⟩ hs,by simpa using I.len⟩ ⟨_,hs,.inl rfl⟩
  ·exact(hs.2 b (aL (aU (aA e) I.ok.above))).trans (I.base.keep b o e n hb hx)
  ·obtain⟨sl,e1⟩:=I.base.slot b o e n hb hx
   exact⟨sl,(hs.2 b (aL (aU (aA e) I.ok.above))).trans e1⟩
  ·obtain⟨o',e1⟩:=I.base.there b o e hx
   exact⟨o',(hs.2 b (aL (aU (aA e) I.ok.above))).trans e1⟩
  ·by_cases hj:j=i
   ·subst hj
    rw[hi]at e1;cases e1
    rw[List.getElem?_set_self hiσ]at e2
    cases e2
    exact⟨u,r,.inl ⟨hk,by simp⟩⟩
   ·rw[eL (bI hj)]at e2
    obtain⟨u',r',q⟩:=hl j y v' e1 e2 e3
    refine⟨u',r',?_⟩
    rcases q with⟨k,e⟩|⟨k,c,e,z⟩
    ·refine .inl ⟨k,?_⟩
     have:y≠x:=λe=>hj (uU hN e1 (e ▸ hi))
     simp[this,e]
    ·exact .inr ⟨k,c,e,z.sameBut hs (cne y c e)⟩
  ·obtain⟨w',z⟩:=I.cell y c e
   exact⟨w',z.sameBut hs (cne y c e)⟩
  ·obtain⟨e,n,ne,nf,d⟩:=I.pin p hp
   exact⟨(hs.2 p.1 ne).trans e,n,ne,nf,d⟩
 ·have hfn:X.fn x=true:=by
   rcases hf with z |z
   ·exact z
   ·rw[z]at hk;cases hk
  obtain⟨c,hc⟩:=I.ok.has x (.inl hk)
  obtain⟨w',z⟩:=I.cell x c hc
  refine wpAny_storeName_cell I.ok.kind hk hc z (λh' hc' hs=>?_)
  obtain⟨oc,hoc,Pb⟩:=id z
  refine h {s with heap:=h'} ⟨I.ok,I.os,I.bare,⟨λb o e n hb hx=>?_,λb o e n hb hx=>?_,I.base.free,λb o e hx=>?_,I.base.kH,I.base.oP,I.base.qv⟩,⟨m,hn.sameBut hs (bI (cne x c hc)),λj y v' e1 e2 e3=>?_⟩,λy c' e=>?_,I.free,I.kC,λp hp=>?_,tracked ⟨oc,hoc,I.kC x c hc⟩ hs,by simpa using I.len⟩ ⟨c,hs,.inr hc⟩
  ·exact(hs.2 b (aL (aU (aA e) (I.ok.cab x c hfn hc)))).trans (I.base.keep b o e n hb hx)
  ·obtain⟨sl,e1⟩:=I.base.slot b o e n hb hx
   exact⟨sl,(hs.2 b (aL (aU (aA e) (I.ok.cab x c hfn hc)))).trans e1⟩
  ·obtain⟨o',e1⟩:=I.base.there b o e hx
   exact⟨o',(hs.2 b (aL (aU (aA e) (I.ok.cab x c hfn hc)))).trans e1⟩
  ·by_cases hj:j=i
   ·subst hj
    rw[hi]at e1;cases e1
    rw[List.getElem?_set_self hiσ]at e2
    cases e2
    exact⟨u,r,.inr ⟨.inl hk,c,hc,hc'⟩⟩
   ·rw[eL (bI hj)]at e2
    obtain⟨u',r',q⟩:=hl j y v' e1 e2 e3
    refine⟨u',r',?_⟩
    rcases q with q |⟨k,c',e,z'⟩
    ·exact .inl q
    ·refine .inr ⟨k,c',e,z'.sameBut hs ?_⟩
     rintro rfl
     exact hj (uU hN e1 (I.ok.inj _ _ _ e hc ▸ hi))
  ·by_cases hcc:c'=c
   ·subst hcc;exact⟨_,hc'⟩
   ·obtain⟨w2,z2⟩:=I.cell y c' e
    exact⟨w2,z2.sameBut hs hcc⟩
  ·obtain⟨e,n,ne,nf,d⟩:=I.pin p hp
   refine⟨(hs.2 p.1 ?_).trans e,n,ne,nf,d⟩
   intro q
   rw[q,hoc]at e
   have q':oc=p.2:=bc e
   exact d w' (by rw[<-q'];exact Pb)
theorem qM {M:Model}{A:Around}{E:Value->Shared->Prop}{i:Nat}{v:V}{Q:Unit->Shared->Prop}(I:Inv X pins σ H s)(hN:X.N.Nodup)(hi:X.N[i]? = some x)(hx:Loc X.env.scope x)(r:RelV v u)
  (h:∀ s',Inv X pins (σ.set i (some v)) H s'->Q () s') (hf:X.fn x=true\/X.env.scope.names.lookup x=some .local:=by first |exact .inl rfl |exact .inr rfl |assumption):wpAny M A (storeName X.env x u) Q E s:=
 rZ I hN hi hx r (λs' I' _=>h s' I') hf
theorem Inv.Ho {s':Shared}{ch:List Addr}(I:Inv X pins σ H s)(ho:s'.os=s.os)(u:Un (frs X.stack) ch H H' s.heap s'.heap)(hok:HOk X.prog X.w H' s'.heap)(hg:AllBare s'.gens)
  (hch:∀ b∈ch,(b∈X.ex\/X.s₀.heap.objs.size<=b)/\b≠X.env.locals/\(∀ x c,X.env.cells.lookup x=some c->c≠b)/\∀ p∈X.pn++pins,p.1≠b):Inv X pins σ H' s':=by
 obtain⟨h',g',d',t',o'⟩:=s'
 have e:o'=s.os:=ho
 subst e
 exact I.call (g':=g') (t':=t') (d':=d') u hok hg hch
end
noncomputable abbrev XK:=Value->Option Addr->Hp->Prop
noncomputable abbrev St:=List (Option V)
noncomputable abbrev VK:=V->Hp->Prop
noncomputable abbrev TE:=St->Hp->VK->Prop
noncomputable abbrev TT:=St->Hp->(Bool->Hp->Prop)->Prop
noncomputable abbrev TA:=St->Hp->(List V->Hp->Prop)->Prop
structure Ends where
 nx:St->Hp->Prop
 rt:VK
 bk:St->Hp->Prop:=λ_ _=>False
 ct:St->Hp->Prop:=λ_ _=>False
noncomputable abbrev TS:=Ends->St->Hp->Prop
noncomputable def EP (X:Cx)(pins:List (Addr×Obj))(σ:St)(Q:VK)(u:Value)(s':Shared):Prop:=∃ v H',Inv X pins σ H' s'/\RelV v u/\Q v H'
noncomputable def TP (X:Cx)(pins:List (Addr×Obj))(σ:St)(Q:Bool->Hp->Prop)(b:Bool)(s':Shared):Prop:=∃ H',Inv X pins σ H' s'/\Q b H'
noncomputable def AP (X:Cx)(pins:List (Addr×Obj))(σ:St)(Q:List V->Hp->Prop)(us:List Value)(s':Shared):Prop:=∃ vs H',Inv X pins σ H' s'/\Vals vs us/\Q vs H'
noncomputable def SP (X:Cx)(pins:List (Addr×Obj))(D:Ends)(f:Flow)(s':Shared):Prop:=
 match f with
 |.next=>∃ σ' H',Inv X pins σ' H' s'/\D.nx σ' H'
 |.brk=>∃ σ' H',Inv X pins σ' H' s'/\D.bk σ' H'
 |.cont=>∃ σ' H',Inv X pins σ' H' s'/\D.ct σ' H'
 |.ret u=>∃ v σ' H',Inv X pins σ' H' s'/\RelV v u/\D.rt v H'
noncomputable def PE (X:Cx)(e:Expr)(t:TE):Prop:=
 ∀ (pins:List (Addr×Obj)) (s:Shared) (σ:St) (H:Hp) (Q:VK),Inv X pins σ H s->t σ H Q->wpAny (model X.prog X.w) X.A (eval e X.env) (EP X pins σ Q) X.xe s
noncomputable def PT (X:Cx)(e:Expr)(t:TT):Prop:=
 ∀ (pins:List (Addr×Obj)) (s:Shared) (σ:St) (H:Hp) (Q:Bool->Hp->Prop),Inv X pins σ H s->t σ H Q->wpAny (model X.prog X.w) X.A (isTrue e X.env (eval e X.env)) (TP X pins σ Q) X.xe s
noncomputable def PW (X:Cx)(e:Expr)(t:TT):Prop:=
 ∀ (whole:Sem Value) (pins:List (Addr×Obj)) (s:Shared) (σ:St) (H:Hp) (Q:Bool->Hp->Prop),Inv X pins σ H s->t σ H Q->wpAny (model X.prog X.w) X.A (isTrue e X.env whole) (TP X pins σ Q) X.xe s
theorem PW.pt {X:Cx}{e:Expr}{t:TT}(h:PW X e t):PT X e t:=h _
noncomputable def PA (X:Cx)(es:List Expr)(t:TA):Prop:=
 ∀ (pos:Pos) (pins:List (Addr×Obj)) (s:Shared) (σ:St) (H:Hp) (Q:List V->Hp->Prop),Inv X pins σ H s->t σ H Q->wpAny (model X.prog X.w) X.A (spliced (backTo pos (starEach es X.env))) (AP X pins σ Q) X.xe s
noncomputable def PS (X:Cx)(st:Stmt)(t:TS):Prop:=
 ∀ (pins:List (Addr×Obj)) (s:Shared) (σ:St) (H:Hp) (D:Ends),Inv X pins σ H s->t D σ H->wpAny (model X.prog X.w) X.A (exec st X.env) (SP X pins D) X.xe s
noncomputable def PSs (X:Cx)(st:List Stmt)(t:TS):Prop:=
 ∀ (pins:List (Addr×Obj)) (s:Shared) (σ:St) (H:Hp) (D:Ends),Inv X pins σ H s->t D σ H->wpAny (model X.prog X.w) X.A (execs st X.env) (SP X pins D) X.xe s
variable {A:Around}{E:Value->Shared->Prop}{s:Shared}
theorem thn {α:Type}{t:Sem α}{Q Q':α->Shared->Prop}{M:Model}(h:wpAny M A t Q E s)(hQ:∀ a s,Q a s->Q' a s):wpAny M A t Q' E s:=bf h hQ λ_ _ x=>x
variable {pins:List (Addr×Obj)}{σ:St}{pos:Pos}{op:CmpOp}
section
variable {X:Cx}
theorem bin {a b:Expr}{ta tb:TE}(ha:PE X a ta)(hb:PE X b tb){R:V->V->Hp->Prop}(I:Inv X pins σ H s)(h:ta σ H λx H1=>tb σ H1 λy H2=>R x y H2)
  {α:Type}{Q:α->Shared->Prop}{f:Value->Value->Sem α}
  (hf:∀ v u s2 x y H2,Inv X pins σ H2 s2->RelV x v->RelV y u->R x y H2->wpAny (model X.prog X.w) X.A (f v u) Q X.xe s2):
  wpAny (model X.prog X.w) X.A (eval a X.env) (λv s₁=>wpAny (model X.prog X.w) X.A (eval b X.env) (λu s₂=>wpAny (model X.prog X.w) X.A (f v u) Q X.xe s₂) X.xe s₁) X.xe s:=by
 refine thn (ha pins s σ H _ I h) λv s1 ⟨x,H1,I1,r1,q1⟩=>?_
 refine thn (hb pins s1 σ H1 _ I1 q1) λu s2 ⟨y,H2,I2,r2,q2⟩=>?_
 exact hf v u s2 x y H2 I2 r1 r2 q2
noncomputable def FQ (i:Nat):TE:=λσ H Q=>∃ v,σ[i]? = some (some v)/\Q v H
noncomputable def tC (v:V):TE:=λ_ H Q=>Q v H
theorem HW {i:Nat}(hN:X.N[i]? = some x)(hv:Vis X.env.scope x)(hd:(x==("__debug__" :Str))=false:=by decide)(hcd:(x==("__classdict__" :Str))=false:=by decide):PE X (.Name x pos) (FQ i):=by
 intro pins s σ H Q I h
 obtain⟨v,e,h⟩:=h
 obtain⟨m,hn,hl⟩:=I.loc
 obtain⟨u,r,l⟩:=hl i x v hN e hv
 have fin:EP X pins σ Q u s:=⟨v,H,I,r,h⟩
 rcases l with⟨hk,hm⟩|⟨hk,c,hc,BO⟩
 ·exact wpAny_Name (wpAny_loadName_local I.ok.kind hk hn hm fin) hd
 ·rcases hk with hk |hk
  ·exact wpAny_Name (wpAny_loadName_cell I.ok.kind hk hc BO fin) hd
  ·exact wpAny_Name (wpAny_loadName_free I.ok.kind hk hc BO fin hcd) hd
theorem fI {i j pos} :PE X (.Constant (.int i) j pos) (tC (.int i)):=λ_ _ _ H _ I h=>wpAny_Constant_int ⟨.int i,H,I.tok _,⟨_,rfl⟩,h⟩
theorem i9 {b j pos} :PE X (.Constant (.bool b) j pos) (tC (.bl b)):=λ_ _ _ H _ I h=>Constant_bool ⟨.bl b,H,I,rfl,h⟩
theorem xO {j pos} :PE X (.Constant .none j pos) (tC .non):=λ_ _ _ H _ I h=>Constant_none ⟨.non,H,I,rfl,h⟩
theorem gO {x j pos} :PE X (.Constant (.str x) j pos) (tC (.str x)):=λ_ _ _ H _ I h=>Calls.Constant_str ⟨.str x,H,I.tok _,⟨_,rfl⟩,h⟩
noncomputable def Gl (X:Cx)(x:Str):Prop:=X.env.kindOf x=some .globalImplicit
theorem oA {E:Value->Shared->Prop}{pos:Pos}{Q:Value->Shared->Prop}(I:Inv X pins σ H s)(hg:Gl X x)(hm:X.mg x=some u)(h:Q u s)
  (hd:(x==("__debug__" :Str))=false:=by decide):wpAny (model X.prog X.w) X.A (eval (.Name x pos) X.env) Q E s:=
 Calls.Name_function_global I.ok.kind hg (Calls.loadGlobal_global (by rw[I.ok.glob];exact I.mod.glob.keeps I.bk) hm h) hd
theorem pf {E:Value->Shared->Prop}{pos:Pos}{Q:Value->Shared->Prop}(I:Inv X pins σ H s)(hg:Gl X x)(hm:X.mg x=none)(hv:bootBuiltins x=some u)(h:Q u s)
  (hn:x≠ "__name__" :=by decide) (hd:(x==("__debug__" :Str))=false:=by decide):wpAny (model X.prog X.w) X.A (eval (.Name x pos) X.env) Q E s:=by
 obtain⟨mb,h1,h2⟩:=I.mod.blt
 exact Calls.Name_function_global I.ok.kind hg (Calls.loadGlobal_builtin (by rw[I.ok.glob];exact I.mod.glob.keeps I.bk) hm (by rw[I.ok.blt];exact h1.keeps I.bk) ((h2 x hn).trans hv) h) hd
theorem me {v:V}(hg:Gl X x)(hm:X.mg x=some u)(r:RelV v u)(hd:(x==("__debug__" :Str))=false:=by decide):PE X (.Name x pos) (tC v):=
 λ_ _ _ H _ I h=>oA I hg hm ⟨v,H,I,r,h⟩ hd
theorem Ga {v:V}(hg:Gl X x)(hm:X.mg x=none)(hv:bootBuiltins x=some u)(r:RelV v u)(hn:x≠ "__name__" :=by decide)(hd:(x==("__debug__" :Str))=false:=by decide):PE X (.Name x pos) (tC v):=
 λ_ _ _ H _ I h=>pf I hg hm hv ⟨v,H,I,r,h⟩ hn hd
noncomputable def t2I (ta tb:TE)(k:Int->Int->Hp->Prop):St->Hp->Prop:=λσ H=>ta σ H λx H1=>tb σ H1 λy H2=>∃ i j,x = .int i/\y = .int j/\k i j H2
variable {a b:Expr}{ta tb:TE}{pos:Pos}
noncomputable def PC (X:Cx)(op:CmpOp)(a b:Expr)(t:TE):Prop:=
 ∀ (pins:List (Addr×Obj)) (s:Shared) (σ:St) (H:Hp) (Q:VK),Inv X pins σ H s->t σ H Q->
  wpAny (model X.prog X.w) X.A (eval a X.env) (λv s₁=>wpAny (model X.prog X.w) X.A (eval b X.env) (λu s₂=>wpAny (model X.prog X.w) X.A (compareOp op v u) (EP X pins σ Q) X.xe s₂) X.xe s₁) X.xe s
theorem zk (b:Expr)(h:op≠ .In)(h2:op≠ .NotIn):behindInMarks op b=false:=by
 have e1:(op==CmpOp.In)=false:=by cases op<;>first |rfl |exact absurd rfl h
 have e2:(op==CmpOp.NotIn)=false:=by cases op<;>first |rfl |exact absurd rfl h2
 cases b<;>simp[behindInMarks,e1,e2]
noncomputable def Ai (p:Int->Int->Bool)(ta tb:TE):TE:=λσ H Q=>t2I ta tb (λi j H2=>Q (.bl (p i j)) H2) σ H
noncomputable abbrev tLt:TE->TE->TE:=Ai λi j=>decide (i<j)
noncomputable abbrev tLe:TE->TE->TE:=Ai λi j=>decide (i<=j)
noncomputable abbrev tGt:TE->TE->TE:=Ai λi j=>decide (j<i)
noncomputable abbrev tGe:TE->TE->TE:=Ai λi j=>decide (j<=i)
noncomputable abbrev Lm:TE->TE->TE:=Ai λi j=>decide (i=j)
noncomputable abbrev Lh:TE->TE->TE:=Ai λi j=> !decide (i=j)
theorem sg {p:Int->Int->Bool}(ha:PE X a ta)(hb:PE X b tb)
  (rule:∀ (i j:Int) (t u:Tok) (Q:Value->Shared->Prop) (s:Shared),Q (.bool (p i j)) s->wpAny (model X.prog X.w) X.A (compareOp op (.int i t) (.int j u)) Q X.xe s):PC X op a b (Ai p ta tb):=by
 intro pins s σ H Q I h
 refine bin ha hb I h λv u s2 x y H2 I2 rx ry q=>?_
 obtain⟨i,j,rfl,rfl,q⟩:=q
 obtain⟨t,rfl⟩:=rx
 obtain⟨t',rfl⟩:=ry
 exact rule i j t t' _ s2 ⟨.bl _,H2,I2,rfl,q⟩
theorem wQ (ha:PE X a ta)(hb:PE X b tb):PC X .Lt a b (tLt ta tb):=sg ha hb λ_ _ _ _ _ _ h=>lt_int h
theorem JY (ha:PE X a ta)(hb:PE X b tb):PC X .LtE a b (tLe ta tb):=sg ha hb λ_ _ _ _ _ _ h=>le_int h
theorem uF (ha:PE X a ta)(hb:PE X b tb):PC X .Gt a b (tGt ta tb):=sg ha hb λ_ _ _ _ _ _ h=>gt_int h
theorem Ha (ha:PE X a ta)(hb:PE X b tb):PC X .GtE a b (tGe ta tb):=sg ha hb λ_ _ _ _ _ _ h=>ge_int h
theorem kP (ha:PE X a ta)(hb:PE X b tb):PC X .Eq a b (Lm ta tb):=sg ha hb λ_ _ _ _ _ _ h=>eq_int (by rw[Bool.beq_eq_decide_eq];exact h)
theorem Au (ha:PE X a ta)(hb:PE X b tb):PC X .NotEq a b (Lh ta tb):=sg ha hb λ_ _ _ _ _ _ h=>ne_int (by rw[bne,Bool.beq_eq_decide_eq];exact h)
noncomputable def Li (ta:TE):TE:=λσ H Q=>ta σ H λx H1=>Q (.bl (decide (x = .non))) H1
noncomputable def JB (ta:TE):TE:=λσ H Q=>ta σ H λx H1=>Q (.bl (!decide (x = .non))) H1
theorem RelV.zj {x:V}{v:Value}(r:RelV x v):(v==Value.none)=decide (x = .non):=by
 cases x with
 |non=>cases r;rfl
 |bl _=>cases r;rfl
 |int _=>obtain⟨t,rfl⟩:=r;rfl
 |str _=>obtain⟨t,rfl⟩:=r;rfl
 |byt _=>obtain⟨t,rfl⟩:=r;rfl
 |flt _=>obtain⟨t,rfl⟩:=r;rfl
 |ref _=>cases r;rfl
 |ty _=>cases r;rfl
theorem Ed {j pos'}(ha:PE X a ta):PC X .Is a (.Constant .none j pos') (Li ta):=by
 intro pins s σ H Q I h
 refine thn (ha pins s σ H _ I h) λv s1 ⟨x,H1,I1,r1,q1⟩=>?_
 exact Constant_none (is_none_gen ⟨.bl _,H1,I1,by rw[r1.zj];rfl,q1⟩)
theorem tL {j pos'}(ha:PE X a ta):PC X .IsNot a (.Constant .none j pos') (JB ta):=by
 intro pins s σ H Q I h
 refine thn (ha pins s σ H _ I h) λv s1 ⟨x,H1,I1,r1,q1⟩=>?_
 exact Constant_none (isnot_none_gen ⟨.bl _,H1,I1,by rw[r1.zj];rfl,q1⟩)
noncomputable def tB (t:TE):TT:=λσ H Q=>t σ H λx H1=>∃ c,x = .bl c/\Q c H1
theorem HY {t:TE}(h:PC X op a b t)(h1:behindInMarks op b=false:=by first |exact zk _ (by decide) (by decide)|rfl):PE X (.Compare a [op] [b] pos) t:=λpins s σ H Q I hw=>wpAny_Compare1 (h pins s σ H Q I hw) h1
theorem gC {t:TE}(h:PC X op a b t)(h1:behindInMarks op b=false:=by first |exact zk _ (by decide) (by decide)|rfl):PT X (.Compare a [op] [b] pos) (tB t):=by
 intro pins s σ H Q I hw
 refine wpAny_isTrue_Compare1 (thn (h pins s σ H _ I hw) λv s1 h1=>thn h1 λu s2 h2=>thn h2 λc s3 ⟨x,H1,I1,r1,q1⟩=>?_) h1
 obtain⟨d,rfl,q⟩:=q1
 cases r1
 exact cS ⟨H1,I1,q⟩
theorem uD {e:Expr}{t:TE}(h:PE X e t)(he:∀ whole,isTrue e X.env whole=(do let v <-whole;standAt e.pos;holding [v] (truthy v)):=by intro _;rfl):PT X e (tB t):=by
 intro pins s σ H Q I hw
 refine isTrue_plain (thn (h pins s σ H _ I hw) λv s1 ⟨x,H1,I1,r1,q1⟩=>?_) (he _)
 obtain⟨d,rfl,q⟩:=q1
 cases r1
 exact cS ⟨H1,I1,q⟩
variable {tA tB':TT}{rest:List Expr}
noncomputable def Lr (t u:TT):TT:=λσ H Q=>t σ H λc H1=>if c=true then u σ H1 Q else Q false H1
noncomputable def tOr (t u:TT):TT:=λσ H Q=>t σ H λc H1=>if c=true then Q true H1 else u σ H1 Q
noncomputable def Lg (t:TT):TT:=λσ H Q=>t σ H λc H1=>Q (!c) H1
theorem tK (ha:PT X a tA):PW X (.BoolOp .And [a] pos) tA:=by
 intro wh pins s σ H Q I h
 refine isTrue_and (thn (ha pins s σ H Q I h) λc s1 e=>?_)
 cases c with
 |true=>exact isTrue_and_nil e
 |false=>exact e
theorem uB (ha:PT X a tA):PW X (.BoolOp .Or [a] pos) tA:=by
 intro wh pins s σ H Q I h
 refine isTrue_or (thn (ha pins s σ H Q I h) λc s1 e=>?_)
 cases c with
 |false=>exact isTrue_or_nil e
 |true=>exact e
theorem xJ (ha:PT X a tA)(hb:PW X (.BoolOp .And (b::rest) pos) tB'):PW X (.BoolOp .And (a::b::rest) pos) (Lr tA tB'):=by
 intro wh pins s σ H Q I h
 refine isTrue_and (thn (ha pins s σ H _ I h) λc s1 ⟨H1,I1,q1⟩=>?_)
 cases c with
 |true=>exact hb wh pins s1 σ H1 Q I1 q1
 |false=>exact⟨H1,I1,q1⟩
theorem yW (ha:PT X a tA)(hb:PW X (.BoolOp .Or (b::rest) pos) tB'):PW X (.BoolOp .Or (a::b::rest) pos) (tOr tA tB'):=by
 intro wh pins s σ H Q I h
 refine isTrue_or (thn (ha pins s σ H _ I h) λc s1 ⟨H1,I1,q1⟩=>?_)
 cases c with
 |true=>exact⟨H1,I1,q1⟩
 |false=>exact hb wh pins s1 σ H1 Q I1 q1
theorem sf (ha:PT X a tA):PT X (.UnaryOp .Not a pos) (Lg tA):=by
 intro pins s σ H Q I h
 exact isTrue_not (ha pins s σ H (λc H1=>Q (!c) H1) I h)
noncomputable def tIf (t:TT)(ta tb:TE):TE:=λσ H Q=>t σ H λc H1=>if c=true then ta σ H1 Q else tb σ H1 Q
theorem y4 {c:Expr}(hc:PT X c tA)(ha:PE X a ta)(hb:PE X b tb):PE X (.IfExp c a b pos) (tIf tA ta tb):=by
 intro pins s σ H Q I h
 refine wpAny_IfExp (thn (hc pins s σ H _ I h) λd s1 ⟨H1,I1,q1⟩=>?_)
 cases d with
 |true=>exact ha pins s1 σ H1 Q I1 q1
 |false=>exact hb pins s1 σ H1 Q I1 q1
end
noncomputable def SqL (K:PySem.W.Frag)(H:Hp)(a:Addr)(xs:List V):Prop:=
 Rd H a (.lst xs)\/
  ∃ (o:Obj) (its:Array Value) (n:Nat),K.lookup a=some o/\o.cls = .type "list" /\o.dict=none/\o.data = .seq its n/\its.size<=sizeLine/\Vals xs its.toList
noncomputable def SqT (K:PySem.W.Frag)(H:Hp)(a:Addr)(xs:List V):Prop:=
 Rd H a (.tup xs)\/
  ∃ (o:Obj) (its:Array Value) (n:Nat),K.lookup a=some o/\o.cls = .type "tuple" /\o.data = .seq its n/\its.size<=sizeLine/\Vals xs its.toList
noncomputable def Sf:Value->Option V
 |.none=>some .non
 |.bool b=>some (.bl b)
 |.int i _=>some (.int i)
 |.str x _=>some (.str x)
 |.bytes b _=>some (.byt b)
 |.float b _=>some (.flt b)
 |.ref a=>some (.ref a)
 |.type n=>some (.ty n)
 |_=>none
theorem RelV.abs {x:V}(r:RelV x u):Sf u=some x:=by
 cases x with
 |non=>cases r;rfl
 |bl _=>cases r;rfl
 |int _=>obtain⟨t,rfl⟩:=r;rfl
 |str _=>obtain⟨t,rfl⟩:=r;rfl
 |byt _=>obtain⟨t,rfl⟩:=r;rfl
 |flt _=>obtain⟨t,rfl⟩:=r;rfl
 |ref _=>cases r;rfl
 |ty _=>cases r;rfl
theorem RelV.inj {x y:V}(r:RelV x u)(q:RelV y u):x=y:=bc (r.abs.symm.trans q.abs)
theorem Vals.inj:∀ {xs ys:List V}{us:List Value},Vals xs us->Vals ys us->xs=ys
 |_,_,_,.nil,.nil=>rfl
 |_,_,_,.cons r t,.cons r' t'=>by rw[r.inj r',Vals.inj t t']
variable {K:PySem.W.Frag}
section
variable {X:Cx}{pins:List (Addr×Obj)}{σ:St}{H:Hp}{s:Shared}{a:Addr}{xs ys:List V}
theorem SqL.of (h:H a=some (.lst xs)):SqL K H a xs:=.inl (.inl h)
theorem SqT.of (h:H a=some (.tup xs)):SqT K H a xs:=.inl (.inl h)
theorem Inv.list (I:Inv X pins σ H s)(h:SqL X.K H a xs):∃ its:List Value,Vals xs its/\PlainL s.heap a its.toArray/\xs.length<=sizeLine:=by
 rcases h with h |⟨o,its,n,hk,hc,hd,hs,hz,r⟩
 ·obtain⟨z,its,n,r,e⟩:=h.ok I.hok
  exact⟨its,r,⟨_,n,e,rfl,rfl,rfl⟩,z⟩
 ·refine⟨its.toList,r,⟨o,n,I.kIn a o hk,hc,hd,by simpa using hs⟩,?_⟩
  have e:=r.length
  simp only[aS]at e
  omega
theorem Inv.tuple (I:Inv X pins σ H s)(h:SqT X.K H a xs):∃ its:List Value,Vals xs its/\IsTup s.heap a its.toArray/\xs.length<=sizeLine:=by
 rcases h with h |⟨o,its,n,hk,hc,hs,hz,r⟩
 ·obtain⟨z,its,r,p⟩:=h.ok I.hok
  exact⟨its,r,p,z⟩
 ·refine⟨its.toList,r,⟨o,I.kIn a o hk,hc,n,by simpa using hs⟩,?_⟩
  have e:=r.length
  simp only[aS]at e
  omega
theorem Inv.nW (I:Inv X pins σ H s)(h:SqL X.K H a xs)(h':SqL X.K H a ys):xs=ys:=by
 obtain⟨its,r,⟨o,n,e,_,_,d⟩,_⟩:=I.list h
 obtain⟨its',r',⟨o',n',e',_,_,d'⟩,_⟩:=I.list h'
 rw[e]at e';cases e'
 rw[d]at d'
 injection d' with d1 _
 have:its=its':=by simpa using cf Array.toList d1
 subst this
 exact r.inj r'
end
noncomputable abbrev Cx.tT (X:Cx)(E:Value->Shared->Prop):Cx:={X with xe:=E}
noncomputable abbrev Cx.nox (X:Cx):Cx:=X.tT λ_ _=>False
theorem Cx.Ok.tT {X:Cx}(ok:X.Ok)(E:Value->Shared->Prop):(X.tT E).Ok:=
 ⟨ok.mod,ok.kind,ok.glob,ok.blt,ok.above,ok.inj,ok.has,ok.cab,ok.hd,ok.frames,ok.stk,ok.exf,ok.bs,ok.bsz,ok.AE,ok.CW,ok.sy,ok.frf⟩
theorem Cx.Ok.oR {X:Cx}(ok:(X.tT E).Ok):X.Ok:=
 ⟨ok.mod,ok.kind,ok.glob,ok.blt,ok.above,ok.inj,ok.has,ok.cab,ok.hd,ok.frames,ok.stk,ok.exf,ok.bs,ok.bsz,ok.AE,ok.CW,ok.sy,ok.frf⟩
section
variable {X:Cx}{pins:List (Addr×Obj)}{σ:St}{H:Hp}{s:Shared}{E:Value->Shared->Prop}
theorem Inv.tT (I:Inv X pins σ H s)(E:Value->Shared->Prop):Inv (X.tT E) pins σ H s:=⟨I.ok.tT E,I.os,I.bare,I.base,I.loc,I.cell,I.free,I.kC,I.pin,I.hok,I.len⟩
theorem Inv.oR (I:Inv (X.tT E) pins σ H s):Inv X pins σ H s:=⟨I.ok.oR,I.os,I.bare,I.base,I.loc,I.cell,I.free,I.kC,I.pin,I.hok,I.len⟩
theorem SP.oR {D:Ends}{f:Flow}{s':Shared}(h:SP (X.tT E) pins D f s'):SP X pins D f s':=by
 cases f with
 |next=>obtain⟨σ',H',I,q⟩:=h;exact⟨σ',H',I.oR,q⟩
 |brk=>obtain⟨σ',H',I,q⟩:=h;exact⟨σ',H',I.oR,q⟩
 |cont=>obtain⟨σ',H',I,q⟩:=h;exact⟨σ',H',I.oR,q⟩
 |ret u=>obtain⟨v,σ',H',I,r,q⟩:=h;exact⟨v,σ',H',I.oR,r,q⟩
theorem PSs.nox {st:List Stmt}{t:TS}(h:PSs X.nox st t):PSs X st t:=λpins s σ H D I hw=>
 bf (h pins s σ H D (I.tT _) hw) (λ_ _ q=>q.oR) λ_ _ z=>False.elim z
end
section
variable {X:Cx}{st:Stmt}{rest:List Stmt}{t u:TS}{e:Expr}{te:TE}{pos:Pos}
noncomputable def JC:TS:=λD σ H=>D.nx σ H
noncomputable def qg (t u:TS):TS:=λD σ H=>t {D with nx:=u D} σ H
theorem fZ:PSs X [] JC:=λ_ _ σ H _ I h=>eh ⟨σ,H,I,h⟩
theorem fH (h1:PS X st t)(h2:PSs X rest u):PSs X (st::rest) (qg t u):=by
 intro pins s σ H D I h
 refine wpAny_execs_cons (thn (h1 pins s σ H {D with nx:=u D} I h) λf s1 q=>?_)
 cases f with
 |next=>
  obtain⟨σ',H',I',q⟩:=q
  exact h2 pins s1 σ' H' D I' q
 |ret v=>exact q
 |brk=>exact q
 |cont=>exact q
theorem fJ (h1:PS X st t):PSs X [st] t:=by
 intro pins s σ H D I h
 refine wpAny_execs_cons (thn (h1 pins s σ H D I h) λf s1 q=>?_)
 cases f with
 |next=>exact eh q
 |ret v=>exact q
 |brk=>exact q
 |cont=>exact q
theorem Inv.quiet (I:Inv X pins σ H s):interactive X.env=false:=by simp[interactive,I.ok.kind]
noncomputable def JF (te:TE):TS:=λD σ H=>te σ H λ_ H1=>D.nx σ H1
theorem gX (he:PE X e te)(hs:swapsWith e none pos.line X.env=pure false:=by rfl):PS X (.Expr e pos) (JF te):=by
 intro pins s σ H D I h
 exact wpAny_Expr_any (thn (he pins s σ H _ I h) λv s1 ⟨x,H1,I1,r1,q1⟩=>⟨σ,H1,I1,q1⟩) I.quiet hs
noncomputable def Jz (te:TE):TS:=λD σ H=>te σ H D.rt
theorem fW (he:PE X e te):PS X (.Return (some e) pos) (Jz te):=by
 intro pins s σ H D I h
 exact wpAny_Return_some (thn (he pins s σ H _ I h) λv s1 ⟨x,H1,I1,r1,q1⟩=>⟨x,σ,H1,I1,r1,q1⟩)
noncomputable def Lj (c:TT)(t u:TS):TS:=λD σ H=>c σ H λb H1=>if b=true then t D σ H1 else u D σ H1
theorem gR {c:Expr}{a b:List Stmt}{tc:TT}(hc:PT X c tc)(ha:PSs X a t)(hb:PSs X b u):PS X (.If c a b pos) (Lj tc t u):=by
 intro pins s σ H D I h
 refine wpAny_If (thn (hc pins s σ H _ I h) λd s1 ⟨H1,I1,q1⟩=>?_)
 cases d with
 |true=>exact ha pins s1 σ H1 D I1 q1
 |false=>exact hb pins s1 σ H1 D I1 q1
end
noncomputable abbrev TG:=V->St->Hp->(St->Hp->Prop)->Prop
noncomputable abbrev TGs:=List V->St->Hp->(St->Hp->Prop)->Prop
noncomputable def PG (X:Cx)(target:Expr)(t:TG):Prop:=
 ∀ (pins:List (Addr×Obj)) (s:Shared) (σ:St) (H:Hp) (v:V) (u:Value) (Q:St->Hp->Prop),Inv X pins σ H s->RelV v u->t v σ H Q->
  wpAny (model X.prog X.w) X.A (assign target X.env u) (λ_ s'=>∃ σ' H',Inv X pins σ' H' s'/\Q σ' H') X.xe s
noncomputable def PGs (X:Cx)(ts:List Expr)(t:TGs):Prop:=
 ∀ (pins:List (Addr×Obj)) (s:Shared) (σ:St) (H:Hp) (vs:List V) (us:List Value) (Q:St->Hp->Prop),Inv X pins σ H s->Vals vs us->t vs σ H Q->
  wpAny (model X.prog X.w) X.A (assignInOrder ((assignEach ts X.env).map (·.2)) us) (λ_ s'=>∃ σ' H',Inv X pins σ' H' s'/\Q σ' H') X.xe s
noncomputable abbrev Su:=V->V->V->Hp->(Hp->Prop)->Prop
noncomputable abbrev TIp:=V->V->Hp->VK->Prop
noncomputable def PIp (X:Cx)(op:Operator)(t:TIp):Prop:=
 ∀ (pins:List (Addr×Obj)) (s:Shared) (σ:St) (H:Hp) (x y:V) (v u:Value) (Q:VK),Inv X pins σ H s->RelV x v->RelV y u->t x y H Q->
  wpAny (model X.prog X.w) X.A (inplaceOp op v u) (EP X pins σ Q) X.xe s
section
variable {X:Cx}{pos:Pos}
noncomputable def oN (i:Nat):TG:=λv σ H Q=>Q (σ.set i (some v)) H
theorem fO {i:Nat}{x:Str}(hN:X.N.Nodup)(hi:X.N[i]? = some x)(hx:Loc X.env.scope x)(hf:X.fn x=true\/X.env.scope.names.lookup x=some .local:=by first |exact .inl rfl |exact .inr rfl |assumption):PG X (.Name x pos) (oN i):=by
 intro pins s σ H v u Q I r h
 exact wpAny_assign_Name (qM I hN hi hx r (λs' I'=>⟨_,H,I',h⟩) hf)
noncomputable def KU:TGs:=λvs σ H Q=>vs = []/\Q σ H
noncomputable def Hg (t:TG)(u:TGs):TGs:=λvs σ H Q=>∃ v r,vs=v::r/\t v σ H λσ' H'=>u r σ' H' Q
theorem gQ:PGs X [] KU:=by
 intro pins s σ H vs us Q I r h
 obtain⟨e,h⟩:=h
 subst e
 cases r
 exact assignInOrder_nil ⟨σ,H,I,h⟩
theorem fQ {e:Expr}{es:List Expr}{t:TG}{u:TGs}(h1:PG X e t)(h2:PGs X es u)
  (hs:(assignEach (e::es) X.env).map (·.2)=assign e X.env::(assignEach es X.env).map (·.2):=by rfl):PGs X (e::es) (Hg t u):=by
 intro pins s σ H vs us Q I r h
 obtain⟨v,vr,e1,h⟩:=h
 subst e1
 cases r with
 |cons r rr=>
  rw[hs]
  refine assignInOrder_cons (thn (h1 pins s σ H _ _ _ I r h) λ_ s1 ⟨σ1,H1,I1,q1⟩=>?_)
  exact h2 pins s1 σ1 H1 _ _ Q I1 rr q1
noncomputable def KS (K:PySem.W.Frag)(n:Nat)(t:TGs):TG:=λv σ H Q=>∃ a xs,v = .ref a/\SqT K H a xs/\xs.length=n/\t xs σ H Q
theorem iu {es:List Expr}{k:Nat}{t:TGs}{n:Nat}(hc:X.calm=true)(h:PGs X es t)
  (hn:(assignEach es X.env).length=n:=by rfl) (hst:(assignEach es X.env).findIdx? (·.1)=none:=by rfl):PG X (.Tuple es k pos) (KS X.K n t):=by
 intro pins s σ H v u Q I r hw
 obtain⟨a,xs,e1,hq,hl,hw⟩:=hw
 subst e1
 cases r
 obtain⟨its,rv,ht,hz⟩:=I.tuple hq
 refine assign_Tuple_tuple (I.ok.hd hc) ht (by simp[hn,<-hl,rv.length]) hst λh' hx=>?_
 have I1:Inv X pins σ H {s with heap:=h'} :=I.kept (t':=s.toks) λb o e=>hx b o (aL (aA e)) e
 exact h pins _ σ H xs _ Q I1 (by simpa using rv) hw
noncomputable def Dz (te:TE)(g:TG):TS:=λD σ H=>te σ H λx H1=>g x σ H1 D.nx
theorem oZ {tg e:Expr}{te:TE}{g:TG}(he:PE X e te)(hg:PG X tg g)(hs:swapsWithSole [tg] e pos.line X.env=pure false:=by rfl)(hw:swappedStores [tg] e X.env=pure none:=by rfl)
  (h1:(assignEach [tg] X.env).map (·.2) = [assign tg X.env]:=by rfl):PS X (.Assign [tg] e pos) (Dz te g):=by
 intro pins s σ H D I h
 refine wpAny_Assign_stores (thn (he pins s σ H _ I h) λv s1 ⟨x,H1,I1,r1,q1⟩=>?_) hs hw
 rw[h1]
 exact thn (hg pins s1 σ H1 x v _ I1 r1 q1) λ_ s2 q=>q
theorem fS {i:Nat}{x:Str}{e:Expr}{te:TE}{pos':Pos}(hN:X.N.Nodup)(hi:X.N[i]? = some x)(hx:Loc X.env.scope x)(he:PE X e te)(hs:swapsWith e (some (.Name x pos')) pos.line X.env=pure false:=by rfl)(hf:X.fn x=true\/X.env.scope.names.lookup x=some .local:=by first |exact .inl rfl |exact .inr rfl |assumption):
  PS X (.Assign [.Name x pos'] e pos) (Dz te (oN i)):=by
 intro pins s σ H D I h
 refine wpAny_Assign_Name (thn (he pins s σ H _ I h) λv s1 ⟨y,H1,I1,r1,q1⟩=>?_) hs
 exact qM I1 hN hi hx r1 (λs2 I2=>⟨_,H1,I2,q1⟩) hf
noncomputable def Lq (i:Nat)(te:TE)(ti:TIp):TS:=λD σ H=>∃ x,σ[i]? = some (some x)/\te σ H λy H1=>ti x y H1 λz H2=>D.nx (σ.set i (some z)) H2
theorem Aq {i:Nat}{e:Expr}{te:TE}{op:Operator}{ti:TIp}{pos':Pos}(hN:X.N.Nodup)(hi:X.N[i]? = some x)(hx:Loc X.env.scope x)(he:PE X e te)(ho:PIp X op ti)(hf:X.fn x=true\/X.env.scope.names.lookup x=some .local:=by first |exact .inl rfl |exact .inr rfl |assumption):
  PS X (.AugAssign (.Name x pos') op e pos) (Lq i te ti):=by
 intro pins s σ H D I h
 obtain⟨v,e1,h⟩:=h
 obtain⟨m,hn,hl⟩:=I.loc
 have vis:Vis X.env.scope x:=by rcases hx with k |k;exact .inl k;exact .inr (.inl k)
 obtain⟨u,r,l⟩:=hl i x v hi e1 vis
 refine wpAny_AugAssign_Name ?_
 have go:wpAny (model X.prog X.w) X.A (eval e X.env) (λw s₂=>wpAny (model X.prog X.w) X.A (inplaceOp op u w) (λr s₃=>wpAny (model X.prog X.w) X.A (storeName X.env x r) (λ_=>SP X pins D .next) X.xe s₃) X.xe s₂) X.xe s:=by
  refine thn (he pins s σ H _ I h) λw s1 ⟨y,H1,I1,r1,q1⟩=>?_
  refine thn (ho pins s1 σ H1 v y u w _ I1 r r1 q1) λz s2 ⟨zv,H2,I2,r2,q2⟩=>?_
  exact qM I2 hN hi hx r2 (λs3 I3=>⟨_,H2,I3,q2⟩) hf
 rcases l with⟨hk,hm⟩|⟨hk,c,hc,BO⟩
 ·exact wpAny_loadName_local I.ok.kind hk hn hm go
 ·rcases hk with hk |hk
  ·exact wpAny_loadName_cell I.ok.kind hk hc BO go
  ·rcases hx with k |k
   ·have:X.env.scope.names.lookup x=some .free:=hk
    rw[k]at this;cases this
   ·have:X.env.scope.names.lookup x=some .free:=hk
    rw[k]at this;cases this
noncomputable def ipI (f:Int->Int->Int):TIp:=λx y H Q=>∃ i j,x = .int i/\y = .int j/\Q (.int (f i j)) H
theorem AM:PIp X .Add (ipI λi j=>i+j):=by
 intro pins s σ H x y v u Q I r1 r2 h
 obtain⟨i,j,e1,e2,q⟩:=h
 subst e1;subst e2
 obtain⟨t,rfl⟩:=r1
 obtain⟨t',rfl⟩:=r2
 exact iadd_int ⟨.int _,H,I.tok _,⟨_,rfl⟩,q⟩
end
section
variable {X:Cx}{pos:Pos}
noncomputable def ua (c:TT)(tb:TS):TS:=λD σ H=>∃ W:Nat->St->Hp->Prop,(∃ m,W m σ H)/\∀ m σ H,W m σ H->
 c σ H λb H1=>if b=true then ∃ N:St->Hp->Prop,(∀ σ' H',N σ' H'->∃ m',m'<m/\W m' σ' H')/\tb {D with nx:=N,ct:=N,bk:=D.nx} σ H1 else D.nx σ H1
theorem nR {c:Expr}{body:List Stmt}{tc:TT}{tb:TS}(hp:PassesOwn (model X.prog X.w) X.A X.env X.xe)(hc:PT X c tc)(hb:PSs X body tb):PS X (.While c body [] pos) (ua tc tb):=by
 intro pins s σ H D I h
 obtain⟨W,⟨m0,w0⟩,turn⟩:=h
 refine wpAny_While (codeAny_whileLoop (λn s'=>∃ σ' H',Inv X pins σ' H' s'/\W n σ' H') ?_ m0 ⟨σ,H,I,w0⟩)
 rintro n s1 ⟨σ1,H1,I1,w1⟩
 refine dz hp (thn (hc pins s1 σ1 H1 _ I1 (turn n σ1 H1 w1)) λb s2 ⟨H2,I2,q2⟩=>?_)
 cases b with
 |true=>
  obtain⟨N,hN,q2⟩:=q2
  rw[aQ rfl]
  refine dz hp (thn (hb pins s2 σ1 H2 _ I2 q2) λf s3 q3=>?_)
  cases f with
  |next=>
   obtain⟨σ3,H3,I3,n3⟩:=q3
   obtain⟨m',hm,w3⟩:=hN σ3 H3 n3
   exact⟨m',hm,σ3,H3,I3,w3⟩
  |cont=>
   obtain⟨σ3,H3,I3,n3⟩:=q3
   obtain⟨m',hm,w3⟩:=hN σ3 H3 n3
   exact⟨m',hm,σ3,H3,I3,w3⟩
  |brk=>exact q3
  |ret v=>exact q3
 |false=>
  rw[aG aB]
  exact eh ⟨σ1,H2,I2,q2⟩
end
structure It where
 go:Nat->Hp->Prop
 yld:Nat->Hp->V->Hp->Prop
 stop:Nat->Hp->Prop
noncomputable def lS (X:Cx)(pins:List (Addr×Obj))(H:Hp)(b:Addr):Prop:=
 H b=none/\b≠X.env.locals/\b∉X.fs/\(b∈X.ex\/X.s₀.heap.objs.size<=b)/\(∀ x c,X.env.cells.lookup x=some c->c≠b)/\∀ p∈X.pn++pins,p.1≠b
theorem Inv.AW {X:Cx}{H':Hp}(I:Inv X pins σ H s)(hb:s.heap.objs.size<=b)(hn:H' b=none):lS X pins H' b:=by
 refine⟨hn,cW (aU I.lt hb),I.Oi hb,.inr (bw I.sz hb),λx c e z=>?_,λp hp z=>?_⟩
 ·obtain⟨v,q⟩:=I.cell x c e
  exact absurd (aU q.lt (by rw[z];exact hb)) (di _)
 ·exact absurd (aU (aA (I.pin p hp).1) (by rw[z];exact hb)) (di _)
structure Turn (P:Program)(w:World)(K:PySem.W.Frag)(tg:Expr)(J:It)(fp:List Addr)(it:Addr)(tn:Nat->Heap->Prop):Prop where
 mem:it∈fp
 obj:∀ i h,tn i h->∀ b∈fp,∃ o,h.get? b=some o/\∀ v,o.data≠ .cell v
 keep:∀ i h h',tn i h->(∀ b∈fp,∀ o,h.get? b=some o->h'.get? b=some o)->tn i h'
 item:∀ (X:Cx),X.prog=P->X.w=w->X.K=K->X.calm=true->∀ (i:Nat) (pins:List (Addr×Obj)) (s:Shared) (σ:St) (H:Hp) (E:Value->Shared->Prop),Inv X pins σ H s->(∀ b∈fp,lS X pins H b)->tn i s.heap->J.go i H->
  wpAny (model P w) X.A (pyNext (.ref it)) (λr s1=>∃ u,r=some u/\
   wpAny (model P w) X.A (letOwnedTupleGo tg (.ref it) u) (λ_ s2=>∃ x H',Inv X pins σ H' s2/\RelV x u/\J.yld i H x H'/\tn (i+1) s2.heap/\∀ b∈fp,H' b=none) E s1) E s
 done:∀ (X:Cx),X.prog=P->X.w=w->X.K=K->X.calm=true->∀ (i:Nat) (pins:List (Addr×Obj)) (s:Shared) (σ:St) (H:Hp) (E:Value->Shared->Prop),Inv X pins σ H s->(∀ b∈fp,lS X pins H b)->tn i s.heap->J.stop i H->
  wpAny (model P w) X.A (pyNext (.ref it)) (λr s1=>r=none/\Inv X pins σ H s1) E s
 self:∀ (A:Around) (i:Nat) (s:Shared) (Q:Value->Shared->Prop) (E:Value->Shared->Prop),tn i s.heap->Q (.ref it) s->wpAny (model P w) A (pyIter (.ref it)) Q E s
noncomputable abbrev TI:=St->Hp->(It->Hp->Prop)->Prop
noncomputable def PIE (X:Cx)(pins:List (Addr×Obj))(σ:St)(tg:Expr)(R:It->Hp->Prop)(itv:Value)(s2:Shared):Prop:=
 ∃ (it:Addr) (fp:List Addr) (tn:Nat->Heap->Prop) (J:It) (H':Hp),itv = .ref it/\Inv X pins σ H' s2/\Turn X.prog X.w X.K tg J fp it tn/\tn 0 s2.heap/\(∀ b∈fp,lS X pins H' b)/\R J H'
noncomputable def PI (X:Cx)(tg iter:Expr)(wi:TI):Prop:=
 ∀ (pins:List (Addr×Obj)) (s:Shared) (σ:St) (H:Hp) (R:It->Hp->Prop),Inv X pins σ H s->wi σ H R->
  wpAny (model X.prog X.w) X.A (eval iter X.env) (λv s1=>wpAny (model X.prog X.w) X.A (pyIter v) (PIE X pins σ tg R) X.xe s1) X.xe s
theorem EZ {M : Model} {A : Around} {E : Value → Shared → Prop} {s : Shared} {tg : Expr} {it : Addr} {u : Value} {o : Obj} {n : String} {vs : Array Value} {Q : Unit → Shared → Prop} (ho : s.heap.get? it = some o) (hc : o.cls = .type n) (hd : o.data = .fields vs)
    (hn : ["enumerate", "zip", "dict_itemiterator", "dict_reverseitemiterator", "odict_iterator", "itertools.zip_longest", "itertools.pairwise"].contains n = false) (hQ : Q () s) : wpAny M A (letOwnedTupleGo tg (.ref it) u) Q E s := by
  unfold letOwnedTupleGo
  cases tg <;> first
    | exact aj hQ
    | (cases u <;> first
        | exact aj hQ
        | (refine ae (wpAny_load ho ?_)
           rw [hc, hd]
           show wpAny M A (if (["enumerate", "zip", "dict_itemiterator", "dict_reverseitemiterator", "odict_iterator", "itertools.zip_longest", "itertools.pairwise"].contains n && vs[0]? == some (rawInt _)) = true then _ else _) Q E s
           rw [aG (by intro h; rw [hn, Bool.false_and] at h; cases h)]
           exact aj hQ))
noncomputable def Itl (K:PySem.W.Frag)(a:Addr):It:=
 ⟨λi H=>∃ xs x,SqL K H a xs/\xs[i]? = some x,λi H x H'=>H'=H/\∀ xs,SqL K H a xs->xs[i]? = some x,λi H=>∃ xs,SqL K H a xs/\xs.length<=i⟩
noncomputable def Itr (lo:Int)(n:Nat):It:=⟨λi _=>i<n,λi H x H'=>H'=H/\x = .int (lo+i),λi _=>n<=i⟩
theorem Cf {tg:Expr}(a it:Addr):Turn P w K tg (Itl K a) [it] it (λi h=>h.IsListIter it a i) where
 mem:=by simp
 obj:=λi h st b hb=>by
  have e:b=it:=by simpa using hb
  subst e
  obtain⟨o,e,c,d⟩:=st
  exact⟨o,e,λv z=>by rw[d]at z;cases z⟩
 keep:=λi h h' st k=>st.at λo e=>k it (by simp) o e
 item:=by
  intro X hP hw hK hc i pins s σ H E I hf st hg
  subst hP hw hK
  obtain⟨xs,x,hq,hx⟩:=hg
  obtain⟨its,rv,p,hz⟩:=I.list hq
  obtain⟨u,hu,ru⟩:=rv.get hx
  obtain⟨f0,f1,f2,f3,f4,f5⟩:=hf it (by simp)
  refine wpAny_pyNext_list_item st p.isList (x:=u) (by simpa using hu) λh' st' sb=>?_
  have I1:Inv X pins σ H {s with heap:=h'} :=I.turned (t':=s.toks) (λb o hb e=>(sb.2 b hb).trans e) f0 f1 f3 f4 f5
  obtain⟨o,e,c,d⟩:=id st'
  exact⟨u,rfl,EZ (s:={s with heap:=h'}) e c d (by decide) ⟨x,H,I1,ru,⟨rfl,λys hy=>by rw[I.nW hy hq];exact hx⟩,st',λb hb=>(hf b hb).1⟩⟩
 done:=by
  intro X hP hw hK hc i pins s σ H E I hf st hg
  subst hP hw hK
  obtain⟨xs,hq,hx⟩:=hg
  obtain⟨its,rv,p,hz⟩:=I.list hq
  obtain⟨f0,f1,f2,f3,f4,f5⟩:=hf it (by simp)
  have hl:=rv.length
  exact wpAny_pyNext_list_end (I.ok.hd hc) st p.isList (by simp;omega) λh' eb=>⟨rfl,I.turned (t':=s.toks) (λb o hb e=>eb b o hb e) f0 f1 f3 f4 f5⟩
 self:=λ_ _ _ _ _ st h=>wpAny_pyIter_listiter st h
theorem Ad {tg:Expr}(it:Addr)(lo:Int)(n:Nat):Turn P w K tg (Itr lo n) [it] it (λi h=>IsRangeIter h it (lo+(i:Nat)*1) ((n:Int)-(i:Nat)) 1) where
 mem:=by simp
 obj:=λi h st b hb=>by
  have e:b=it:=by simpa using hb
  subst e
  exact⟨_,st,λv z=>by
   have z':Data.fields _=Data.cell v:=z
   cases z'⟩
 keep:=λi h h' st k=>k it (by simp) _ st
 item:=by
  intro X hP hw hK hc i pins s σ H E I hf st hg
  subst hP hw hK
  obtain⟨f0,f1,f2,f3,f4,f5⟩:=hf it (by simp)
  have W:=Walks.range (prog:=X.prog) (w:=X.w) (I.ok.hd hc) it lo 1 n
  refine W.item i s _ _ hg st λv h' tk hv st' kk=>?_
  obtain⟨t,rfl⟩:=hv
  have I1:Inv X pins σ H {s with heap:=h',toks:=tk} :=I.turned (λb o hb e=>kk b o (by simpa using hb) e) f0 f1 f3 f4 f5
  refine⟨_,rfl,EZ (s:={s with heap:=h',toks:=tk}) (n:= "range_iterator") st' rfl rfl (by decide) ⟨.int (lo+i),H,I1,⟨t,?_⟩,⟨rfl,rfl⟩,st',λb hb=>(hf b hb).1⟩⟩
  rw[Int.mul_one]
 done:=by
  intro X hP hw hK hc i pins s σ H E I hf st hg
  subst hP hw hK
  obtain⟨f0,f1,f2,f3,f4,f5⟩:=hf it (by simp)
  exact wpAny_pyNext_range_end (I.ok.hd hc) st (by have:n<=i:=hg;omega) λh' eb=>⟨rfl,I.turned (t':=s.toks) (λb o hb e=>eb b o hb e) f0 f1 f3 f4 f5⟩
 self:=λ_ _ _ _ _ st h=>wpAny_pyIter_rangeiter st h
section
variable {X:Cx}{tg:Expr}
noncomputable def Km (K:PySem.W.Frag)(tl:TE):TI:=λσ H R=>tl σ H λx H1=>∃ a,x = .ref a/\(∃ xs,SqL K H1 a xs)/\R (Itl K a) H1
theorem gq {l:Expr}{tl:TE}(hl:PE X l tl):PI X tg l (Km X.K tl):=by
 intro pins s σ H R I h
 refine thn (hl pins s σ H _ I h) λv s1 ⟨x,H1,I1,r1,q1⟩=>?_
 obtain⟨a,e,⟨xs,hq⟩,q⟩:=q1
 subst e
 cases r1
 obtain⟨its,rv,p,hz⟩:=I1.list hq
 refine wpAny_pyIter_list p.isList ?_
 refine⟨s1.heap.objs.size,[s1.heap.objs.size],_,_,H1,rfl,I1.kept (t':=s1.toks) λb o e=>ax _ e,Cf a _,⟨_,aR _ rfl,rfl,rfl⟩,λb hb=>?_,q⟩
 have e:b=s1.heap.objs.size:=by simpa using hb
 subst e
 exact I1.AW (ar _) (I1.hok.fresh (ar _))
theorem yU {R:It->Hp->Prop}{lo hi:Int}{t u v:Tok}{tk:Nat}(I:Inv X pins σ H s)(h1: -(2 ^ 62)<=lo)(h2:lo<2 ^ 62)(h3: -(2 ^ 62)<=hi)(h4:hi<2 ^ 62)
  (q:R (Itr lo (hi-lo).toNat) H):wpAny (model X.prog X.w) X.A (pyIter (.ref s.heap.objs.size)) (PIE X pins σ tg R) E {s with heap:=s.heap.push {cls:=.type "range",data:=.fields #[.int lo t,.int hi u,.int 1 v]},toks:=tk} :=by
 refine wpAny_pyIter_range (IsRange.new ..) (small_one h1 h2 h3 h4) ?_
 have I1:Inv X pins σ H {s with heap:=s.heap.push {cls:=.type "range",data:=.fields #[.int lo t,.int hi u,.int 1 v]},toks:=tk} :=I.kept λb o e=>ax _ e
 refine⟨(s.heap.push {cls:=.type "range",data:=.fields #[.int lo t,.int hi u,.int 1 v]}).objs.size,[(s.heap.push {cls:=.type "range",data:=.fields #[.int lo t,.int hi u,.int 1 v]}).objs.size],_,_,H,rfl,
  I1.kept (t':=tk) λb o e=>ax _ e,Ad _ lo (hi-lo).toNat,?_,λb hb=>?_,q⟩
 ·have e1:lo+((0:Nat):Int)*1=lo:=by simp
  have e2:(((hi-lo).toNat:Nat):Int)-((0:Nat):Int)=Builtin.Range.rangeSize lo hi 1:=by rw[rangeSize_one];split<;>omega
  show IsRangeIter _ _ (lo+((0:Nat):Int)*1) ((((hi-lo).toNat:Nat):Int)-((0:Nat):Int)) 1
  rw[e1,e2]
  exact aR _ rfl
 ·have e:b=(s.heap.push {cls:=.type "range",data:=.fields #[.int lo t,.int hi u,.int 1 v]}).objs.size:=by simpa using hb
  subst e
  exact I1.AW (ar _) (I1.hok.fresh (ar _))
noncomputable def Kl (ta:TA):TI:=λσ H R=>ta σ H λvs H1=>∃ j:Int,vs = [.int j]/\ -(2 ^ 62)<=j/\j<2 ^ 62/\R (Itr 0 j.toNat) H1
noncomputable def Kk (ta:TA):TI:=λσ H R=>ta σ H λvs H1=>∃ i j:Int,vs = [.int i,.int j]/\(-(2 ^ 62)<=i/\i<2 ^ 62/\ -(2 ^ 62)<=j/\j<2 ^ 62)/\R (Itr i (j-i).toNat) H1
theorem nT {a:Expr}{ta:TA}{p:Pos}(hg:Gl X "range")(hm:X.mg "range" = none)(ha:PA X [a] ta)(hs:starEach [a] X.env = [(false,eval a X.env)]:=by rfl):PI X tg (.Call (.Name "range" p) [a] [] pos) (Kl ta):=by
 intro pins s σ H R I h
 refine Call_ (pf I hg hm boot_range (bZ (thn (ha pos pins s σ H _ I h) λus s1 ⟨vs,H1,I1,r1,q1⟩=>?_) hs rfl))
 obtain⟨j,e,q1,q2,q⟩:=q1
 subst e
 cases r1 with
 |cons r rr=>
  cases rr
  obtain⟨t,rfl⟩:=r
  exact call_range_1 (yU I1 (by omega) (by omega) q1 q2 (by simpa using q))
theorem wM {a b:Expr}{ta:TA}{p:Pos}(hg:Gl X "range")(hm:X.mg "range" = none)(ha:PA X [a,b] ta)(hs:starEach [a,b] X.env = [(false,eval a X.env),(false,eval b X.env)]:=by rfl)(hs2:starEach [b] X.env = [(false,eval b X.env)]:=by rfl):
  PI X tg (.Call (.Name "range" p) [a,b] [] pos) (Kk ta):=by
 intro pins s σ H R I h
 refine Call_ (pf I hg hm boot_range (bZ (thn (ha pos pins s σ H _ I h) λus s1 ⟨vs,H1,I1,r1,q1⟩=>?_) (by rw[hs,hs2]) (by rw[hs2];rfl)))
 obtain⟨i,j,e,⟨q1,q2,q3,q4⟩,q⟩:=q1
 subst e
 cases r1 with
 |cons r rr=>
  cases rr with
  |cons r' rr=>
   cases rr
   obtain⟨t,rfl⟩:=r
   obtain⟨t',rfl⟩:=r'
   exact call_range_2 (yU I1 q1 q2 q3 q4 q)
noncomputable def Ll (wi:TI)(g:TG)(tb:TS):TS:=λD σ H=>wi σ H λJ H1=>∃ W:Nat->Nat->St->Hp->Prop,(∃ m,W 0 m σ H1)/\∀ i m σ H,W i m σ H->
 (J.stop i H/\D.nx σ H)\/(J.go i H/\∃ N:St->Hp->Prop,(∀ σ' H',N σ' H'->∃ m',m'<m/\W (i+1) m' σ' H')/\∀ x H',J.yld i H x H'->g x σ H' λσ2 H2=>tb {D with nx:=N,ct:=N,bk:=D.nx} σ2 H2)
noncomputable def ox (fp:List Addr)(h:Heap):List (Addr×Obj):=fp.filterMap λb=>(h.get? b).map λo=>(b,o)
theorem iI {fp:List Addr}{h:Heap}{o:Obj}(hb:b∈fp)(e:h.get? b=some o):(b,o)∈ox fp h:=fi.mpr ⟨b,hb,by rw[e];rfl⟩
theorem CC {fp:List Addr}{h:Heap}{p:Addr×Obj}(hp:p∈ox fp h):p.1∈fp/\h.get? p.1=some p.2:=by
 obtain⟨b,hb,e⟩:=fi.mp hp
 cases q:h.get? b with
 |none=>rw[q]at e;cases e
 |some o=>
  rw[q]at e
  have e':(b,o)=p:=bc e
  subst e'
  exact⟨hb,q⟩
theorem Inv.pinned {fp:List Addr}(I:Inv X pins σ H s)(hf:∀ b∈fp,lS X pins H b)(ho:∀ b∈fp,∃ o,s.heap.get? b=some o/\∀ v,o.data≠ .cell v):Inv X (pins++ox fp s.heap) σ H s:=
 I.Bu λp hp=>(aD.mp hp).elim (λz=>I.pin p (az _ z)) λz=>by
  obtain⟨hb,e⟩:=CC z
  obtain⟨f0,f1,f2,_⟩:=hf p.1 hb
  obtain⟨o,e',d⟩:=ho p.1 hb
  rw[e]at e';cases e'
  exact⟨e,f0,f1,f2,d⟩
theorem Inv.lF {pl:List (Addr×Obj)}(I:Inv X (pins++pl) σ H s):Inv X pins σ H s:=I.Bu λp hp=>I.pin p (az _ (bz _ hp))
theorem ir {iter:Expr}{body:List Stmt}{wi:TI}{g:TG}{tb:TS}{pos:Pos}(hp:PassesOwn (model X.prog X.w) X.A X.env X.xe)(hc:X.calm=true)(hi:PI X tg iter wi)(hg:PG X tg g)(hb:PSs X body tb)
  (hs:∀ x,foldedSetIterable iter X.env x=pure x:=by intro _;rfl):PS X (.For tg iter body [] pos) (Ll wi g tb):=by
 intro pins s σ H D I h
 refine wpAny_For (thn (hi pins s σ H _ I h) λv s1 h1=>thn h1 λitv s2 h2=>?_) hs
 obtain⟨it,fp,tn,J,H2,e,I2,T,st2,f2,W,⟨m0,w0⟩,turn⟩:=h2
 subst e
 have HH:∀ {H':Hp},(∀ b∈fp,H' b=none)->∀ b∈fp,lS X pins H' b:=λhn b hb=>⟨hn b hb,(f2 b hb).2⟩
 refine codeAny_forLoop_any (λn s'=>∃ i σ' H',Inv X pins σ' H' s'/\tn i s'.heap/\(∀ b∈fp,H' b=none)/\W i n σ' H') ?_ m0 ⟨0,σ,H2,I2,st2,λb hb=>(f2 b hb).1,w0⟩
 rintro n s3 ⟨i,σ3,H3,I3,st3,fr3,w3⟩
 rcases turn i n σ3 H3 w3 with⟨stop,qn⟩|⟨go,N,hN,step⟩
 ·refine dz hp (thn (T.done X rfl rfl rfl hc i pins s3 σ3 H3 X.xe I3 (HH fr3) st3 stop) λr s4 ⟨hr,I4⟩=>?_)
  subst hr
  exact eh ⟨σ3,H3,I4,qn⟩
 ·refine dz hp (thn (T.item X rfl rfl rfl hc i pins s3 σ3 H3 X.xe I3 (HH fr3) st3 go) λr s4 ⟨u,hr,h4⟩=>?_)
  subst hr
  refine dz hp (thn h4 λ_ s5 ⟨x,H5,I5,r5,y5,st5,fr5⟩=>?_)
  have I5':=I5.pinned (HH fr5) (T.obj _ _ st5)
  refine dz hp (thn (hg _ s5 σ3 H5 x u _ I5' r5 (step x H5 y5)) λ_ s6 ⟨σ6,H6,I6,q6⟩=>?_)
  refine dz hp (thn (hb _ s6 σ6 H6 _ I6 q6) λf s7 q7=>?_)
  have again:∀ {σ7:St}{H7:Hp},Inv X (pins++ox fp s5.heap) σ7 H7 s7->N σ7 H7->∃ m,m<n/\∃ i σ' H',Inv X pins σ' H' s7/\tn i s7.heap/\(∀ b∈fp,H' b=none)/\W i m σ' H':=λ{σ7 H7} I7 n7=>by
   obtain⟨m',hm,w7⟩:=hN σ7 H7 n7
   refine⟨m',hm,i+1,σ7,H7,I7.lF,T.keep _ _ _ st5 λb hb o e=>(I7.pin (b,o) (az _ (az _ (iI hb e)))).1,λb hb=>?_,w7⟩
   obtain⟨o,e,d⟩:=T.obj _ _ st5 b hb
   exact(I7.pin (b,o) (az _ (az _ (iI hb e)))).2.1
  cases f with
  |next=>obtain⟨σ7,H7,I7,n7⟩:=q7;exact again I7 n7
  |cont=>obtain⟨σ7,H7,I7,n7⟩:=q7;exact again I7 n7
  |brk=>obtain⟨σ7,H7,I7,q7⟩:=q7;exact⟨σ7,H7,I7.lF,q7⟩
  |ret v=>obtain⟨x7,σ7,H7,I7,r7,q7⟩:=q7;exact⟨x7,σ7,H7,I7.lF,r7,q7⟩
end
theorem pk {xs:List V}{g:TG}{tb:TS}{D:Ends}(Pv:Nat->St->Hp->Prop)(h0:Pv 0 σ H)(hl:∀ i σ H,i<=xs.length->Pv i σ H->SqL K H a xs)
  (hs:∀ i x σ H,xs[i]? = some x->Pv i σ H->g x σ H λσ2 H2=>tb {D with nx:=Pv (i+1),ct:=Pv (i+1),bk:=D.nx} σ2 H2) (hd:∀ σ H,Pv xs.length σ H->D.nx σ H):
  ∃ W:Nat->Nat->St->Hp->Prop,(∃ m,W 0 m σ H)/\∀ i m σ H,W i m σ H->
   ((Itl K a).stop i H/\D.nx σ H)\/((Itl K a).go i H/\∃ N:St->Hp->Prop,(∀ σ' H',N σ' H'->∃ m',m'<m/\W (i+1) m' σ' H')/\∀ x H',(Itl K a).yld i H x H'->g x σ H' λσ2 H2=>tb {D with nx:=N,ct:=N,bk:=D.nx} σ2 H2):=by
 refine⟨λi m σ H=>m=xs.length-i/\i<=xs.length/\Pv i σ H,⟨xs.length,by simp,aI _,h0⟩,?_⟩
 rintro i m σ H ⟨rfl,hi,p⟩
 have q:=hl i σ H hi p
 by_cases hlt:i<xs.length
 ·refine .inr ⟨⟨xs,xs[i],q,by simp[hlt]⟩,Pv (i+1),λσ' H' p'=>⟨xs.length-(i+1),by omega,rfl,hlt,p'⟩,λx H' y=>?_⟩
  obtain⟨e,y⟩:=y
  subst e
  exact hs i x σ _ (y xs q) p
 ·have e:i=xs.length:=by omega
  subst e
  exact .inl ⟨⟨xs,q,ar _⟩,hd σ H p⟩
theorem pY {lo:Int}{n:Nat}{g:TG}{tb:TS}{D:Ends}(Pv:Nat->St->Hp->Prop)(h0:Pv 0 σ H)
  (hs:∀ i σ H,i<n->Pv i σ H->g (.int (lo+i)) σ H λσ2 H2=>tb {D with nx:=Pv (i+1),ct:=Pv (i+1),bk:=D.nx} σ2 H2) (hd:∀ σ H,Pv n σ H->D.nx σ H):
  ∃ W:Nat->Nat->St->Hp->Prop,(∃ m,W 0 m σ H)/\∀ i m σ H,W i m σ H->
   ((Itr lo n).stop i H/\D.nx σ H)\/((Itr lo n).go i H/\∃ N:St->Hp->Prop,(∀ σ' H',N σ' H'->∃ m',m'<m/\W (i+1) m' σ' H')/\∀ x H',(Itr lo n).yld i H x H'->g x σ H' λσ2 H2=>tb {D with nx:=N,ct:=N,bk:=D.nx} σ2 H2):=by
 refine⟨λi m σ H=>m=n-i/\i<=n/\Pv i σ H,⟨n,by simp,aI _,h0⟩,?_⟩
 rintro i m σ H ⟨rfl,hi,p⟩
 by_cases hlt:i<n
 ·refine .inr ⟨hlt,Pv (i+1),λσ' H' p'=>⟨n-(i+1),by omega,rfl,hlt,p'⟩,λx H' y=>?_⟩
  obtain⟨e,y⟩:=y
  subst e y
  exact hs i σ _ hlt p
 ·have e:i=n:=by omega
  subst e
  exact .inl ⟨ar _,hd σ H p⟩
theorem yB {c:TT}{tb:TS}{D:Ends}(Pv:St->Hp->Prop)(μ:St->Hp->Nat)(h0:Pv σ H)
  (hs:∀ σ H,Pv σ H->c σ H λb H1=>if b=true then tb {D with nx:=λσ' H'=>Pv σ' H'/\μ σ' H'<μ σ H,ct:=λσ' H'=>Pv σ' H'/\μ σ' H'<μ σ H,bk:=D.nx} σ H1 else D.nx σ H1)
  (mono:∀ σ H Q Q',(∀ b H1,Q b H1->Q' b H1)->c σ H Q->c σ H Q'):ua c tb D σ H:=by
 refine⟨λm σ H=>m=μ σ H/\Pv σ H,⟨_,rfl,h0⟩,?_⟩
 rintro m σ H ⟨rfl,p⟩
 refine mono σ H _ _ (λb H1 q=>?_) (hs σ H p)
 cases b with
 |true=>exact⟨_,λσ' H' ⟨p',l⟩=>⟨_,l,rfl,p'⟩,q⟩
 |false=>exact q
noncomputable abbrev R2:=V->V->Hp->VK->Prop
noncomputable def OpR (X:Cx)(f:Value->Value->Sem Value)(r:R2):Prop:=
 ∀ (pins:List (Addr×Obj)) (s:Shared) (σ:St) (H:Hp) (x y:V) (v u:Value) (Q:VK),Inv X pins σ H s->RelV x v->RelV y u->r x y H Q->
  wpAny (model X.prog X.w) X.A (f v u) (EP X pins σ Q) X.xe s
noncomputable def UnR (X:Cx)(f:Value->Sem Value)(r:V->Hp->VK->Prop):Prop:=
 ∀ (pins:List (Addr×Obj)) (s:Shared) (σ:St) (H:Hp) (x:V) (v:Value) (Q:VK),Inv X pins σ H s->RelV x v->r x H Q->
  wpAny (model X.prog X.w) X.A (f v) (EP X pins σ Q) X.xe s
noncomputable def kG (X:Cx)(f:Value)(r:List V->Hp->VK->Prop):Prop:=
 ∀ (pins:List (Addr×Obj)) (s:Shared) (σ:St) (H:Hp) (xs:List V) (us:List Value) (Q:VK),Inv X pins σ H s->Vals xs us->r xs H Q->
  wpAny (model X.prog X.w) X.A (call f us) (EP X pins σ Q) X.xe s
noncomputable def Sh (X:Cx)(r:V->Hp->(Bool->Hp->Prop)->Prop):Prop:=
 ∀ (pins:List (Addr×Obj)) (s:Shared) (σ:St) (H:Hp) (x:V) (v:Value) (Q:Bool->Hp->Prop),Inv X pins σ H s->RelV x v->r x H Q->
  wpAny (model X.prog X.w) X.A (truthy v) (TP X pins σ Q) X.xe s
noncomputable def tOp (r:R2)(ta tb:TE):TE:=λσ H Q=>ta σ H λx H1=>tb σ H1 λy H2=>r x y H2 Q
noncomputable def tUn (r:V->Hp->VK->Prop)(ta:TE):TE:=λσ H Q=>ta σ H λx H1=>r x H1 Q
noncomputable def rI (C:Int->Int->Prop)(g:Int->Int->V):R2:=λx y H Q=>∃ i j,x = .int i/\y = .int j/\C i j/\Q (g i j) H
noncomputable def rI0 (g:Int->Int->V):R2:=λx y H Q=>∃ i j,x = .int i/\y = .int j/\Q (g i j) H
noncomputable def rU (g:Int->V):V->Hp->VK->Prop:=λx H Q=>∃ i,x = .int i/\Q (g i) H
section
variable {X:Cx}{a b c:Expr}{ta tb tc:TE}{pos:Pos}
theorem Jf (ha:PE X a ta)(hb:PE X b tb){R:V->V->Hp->Prop}(I:Inv X pins σ H s)
  (h:ta σ H λx H1=>tb σ H1 λy H2=>R x y H2) {Q:Value->Shared->Prop}{f:Value->Value->Sem Value}
  (hf:∀ v u s2 x y H2,Inv X pins σ H2 s2->RelV x v->RelV y u->R x y H2->wpAny (model X.prog X.w) X.A (f v u) Q X.xe s2):
  wpAny (model X.prog X.w) X.A (eval a X.env) (λv s₁=>wpAny (model X.prog X.w) X.A (eval b X.env) (λu s₂=>wpAny (model X.prog X.w) X.A (f v u) Q X.xe s₂) X.xe s₁) X.xe s:=by
 refine thn (ha pins s σ H _ I h) λv s1 ⟨x,H1,I1,r1,q1⟩=>?_
 refine thn (hb pins s1 σ H1 _ I1 q1) λu s2 ⟨y,H2,I2,r2,q2⟩=>?_
 exact hf v u s2 x y H2 I2 r1 r2 q2
theorem fT {op:Operator}{r:R2}(ho:OpR X (binaryOp op) r)(ha:PE X a ta)(hb:PE X b tb):PE X (.BinOp a op b pos) (tOp r ta tb):=by
 intro pins s σ H Q I h
 exact wpAny_BinOp (Jf ha hb I h λv u s2 x y H2 I2 rx ry q=>ho pins s2 σ H2 x y v u Q I2 rx ry q)
theorem qZ {op:UnaryOp}{r:V->Hp->VK->Prop}(ho:UnR X (unaryOp op) r)(ha:PE X a ta):PE X (.UnaryOp op a pos) (tUn r ta):=by
 intro pins s σ H Q I h
 exact UnaryOp_ (thn (ha pins s σ H _ I h) λv s1 ⟨x,H1,I1,r1,q1⟩=>ho pins s1 σ H1 x v Q I1 r1 q1)
theorem opI {f:Value->Value->Sem Value}{C:Int->Int->Prop}{g:Int->Int->Int}
  (rule:∀ (i j:Int) (t u:Tok) (s:Shared) (Q:Value->Shared->Prop) (E:Value->Shared->Prop),C i j->Q (.int (g i j) s.toks) {s with toks:=s.toks+1} ->wpAny (model X.prog X.w) X.A (f (.int i t) (.int j u)) Q E s):
  OpR X f (rI C λi j=>.int (g i j)):=by
 intro pins s σ H x y v u Q I rx ry h
 obtain⟨i,j,rfl,rfl,hc,q⟩:=h
 obtain⟨t,rfl⟩:=rx
 obtain⟨t',rfl⟩:=ry
 exact rule i j t t' s _ _ hc ⟨.int (g i j),H,I.tok _,⟨_,rfl⟩,q⟩
theorem Ie {f:Value->Value->Sem Value}{g:Int->Int->Int}
  (rule:∀ (i j:Int) (t u:Tok) (s:Shared) (Q:Value->Shared->Prop) (E:Value->Shared->Prop),Q (.int (g i j) s.toks) {s with toks:=s.toks+1} ->wpAny (model X.prog X.w) X.A (f (.int i t) (.int j u)) Q E s):
  OpR X f (rI0 λi j=>.int (g i j)):=by
 intro pins s σ H x y v u Q I rx ry h
 obtain⟨i,j,rfl,rfl,q⟩:=h
 obtain⟨t,rfl⟩:=rx
 obtain⟨t',rfl⟩:=ry
 exact rule i j t t' s _ _ ⟨.int (g i j),H,I.tok _,⟨_,rfl⟩,q⟩
theorem J5 {f:Value->Value->Sem Value}{g:Int->Int->Bool}
  (rule:∀ (i j:Int) (t u:Tok) (s:Shared) (Q:Value->Shared->Prop) (E:Value->Shared->Prop),Q (.bool (g i j)) s->wpAny (model X.prog X.w) X.A (f (.int i t) (.int j u)) Q E s):
  OpR X f (rI0 λi j=>.bl (g i j)):=by
 intro pins s σ H x y v u Q I rx ry h
 obtain⟨i,j,rfl,rfl,q⟩:=h
 obtain⟨t,rfl⟩:=rx
 obtain⟨t',rfl⟩:=ry
 exact rule i j t t' s _ _ ⟨.bl (g i j),H,I,rfl,q⟩
noncomputable def Sj (i j:Int):Prop:=0<j/\j<1073741824
noncomputable def Si (i j:Int):Prop:=0<=j/\j<=1000000/\i.natAbs<2 ^ 64
noncomputable def Jm (i j:Int):Prop:=(-(2 ^ 64)<i/\i<2 ^ 64)\/(-(2 ^ 64)<j/\j<2 ^ 64)
theorem Jm.ok {i j:Int}(h:Jm i j):IntMulOk i j:=by
 rcases h with⟨h1,h2⟩|⟨h1,h2⟩
 ·exact .of_left (intBits_le_64 h1 h2)
 ·exact .of_right (intBits_le_64 h1 h2)
theorem iS:OpR X (binaryOp .Add) (rI0 λi j=>.int (i+j)):=Ie λ_ _ _ _ _ _ _ q=>add_int q
theorem uI:OpR X (binaryOp .Sub) (rI0 λi j=>.int (i-j)):=Ie λ_ _ _ _ _ _ _ q=>sub_int q
theorem kb:OpR X (binaryOp .Mult) (rI Jm λi j=>.int (i*j)):=opI λ_ _ _ _ _ _ _ hc q=>mul_int q hc.ok
theorem iW:OpR X (binaryOp .FloorDiv) (rI Sj λi j=>.int (i/j)):=opI λi j _ _ _ _ _ hc q=>by
 have h1:(0:Int)<j:=hc.1
 have h2:j<1073741824:=hc.2
 exact floordiv_int (by omega) (by rw[Int.fdiv_eq_ediv_of_nonneg i (by omega)];exact q) (.inl (PyProof.noPylong_small (by omega)))
theorem i6:OpR X (binaryOp .Mod) (rI (λ_ j=>0<j) λi j=>.int (i%j)):=opI λi j _ _ _ _ _ hc q=>by
 have h1:(0:Int)<j:=hc
 exact mod_int' (by omega) (by rw[Int.fmod_eq_emod_of_nonneg i (by omega)];exact q)
theorem Aw:OpR X (binaryOp .Pow) (rI Si λi j=>.int (i ^ j.toNat)):=opI λ_ _ _ _ _ _ _ hc q=>pow_int_small hc.1 hc.2.1 hc.2.2 q
theorem Ia:OpR X (binaryOp .BitXor) (rI0 λi j=>.int (Builtin.bitXor i j)):=Ie λ_ _ _ _ _ _ _ q=>xor_int q
theorem unI {f:Value->Sem Value}{g:Int->Int}
  (rule:∀ (i:Int) (t:Tok) (s:Shared) (Q:Value->Shared->Prop) (E:Value->Shared->Prop),Q (.int (g i) s.toks) {s with toks:=s.toks+1} ->wpAny (model X.prog X.w) X.A (f (.int i t)) Q E s):
  UnR X f (rU λi=>.int (g i)):=by
 intro pins s σ H x v Q I rx h
 obtain⟨i,rfl,q⟩:=h
 obtain⟨t,rfl⟩:=rx
 exact rule i t s _ _ ⟨.int (g i),H,I.tok _,⟨_,rfl⟩,q⟩
theorem om:UnR X (unaryOp .USub) (rU λi=>.int (-i)):=unI λ_ _ _ _ _ q=>neg_int q
end
noncomputable def JK:V->V->Bool
 |.non,.non=>true |.non,.int _=>true |.int _,.non=>true |.non,.bl _=>true |.bl _,.non=>true |.non,.str _=>true |.str _,.non=>true
 |.int _,.int _=>true |.bl _,.bl _=>true |.str _,.str _=>true |.byt _,.byt _=>true
 |.int _,.str _=>true |.str _,.int _=>true |.bl _,.str _=>true |.str _,.bl _=>true
 |_,_=>false
noncomputable def rEq:R2:=λx y H Q=>JK x y=true/\Q (.bl (decide (x=y))) H
noncomputable def rNe:R2:=λx y H Q=>JK x y=true/\Q (.bl (!decide (x=y))) H
theorem BX {i j:Int} :decide (V.int i=V.int j)=(i==j):=by
 rw[bN]
 simp
theorem Fd {i j:Bool} :decide (V.bl i=V.bl j)=(i==j):=by
 rw[bN]
 simp
theorem BW {i j:Str} :decide (V.str i=V.str j)=(i==j):=by
 rw[bN]
 simp
theorem BY {i j:Array UInt8} :decide (V.byt i=V.byt j)=(i.toList==j.toList):=by
 rw[bN]
 cases i
 cases j
 simp
section
variable {X:Cx}{a b c:Expr}{ta tb tc:TE}{pos:Pos}
theorem hG {Q:VK}{k k':Bool}(I:Inv X pins σ H s)(q:Q (.bl k) H)(e:k=k'):EP X pins σ Q (.bool k') s:=by
 subst e
 exact⟨.bl k,H,I,rfl,q⟩
theorem Eg:OpR X (compareOp .Eq) rEq:=by
 intro pins s σ H x y v u Q I rx ry h
 obtain⟨hs,q⟩:=h
 cases x with
 |non=>
  cases rx
  cases y with
  |non=>cases ry;exact PySem.EqNone.eq_none_none (hG I q (by simp))
  |bl j=>cases ry;exact PySem.EqNone.eq_none_bool (hG I q (by simp))
  |int j=>obtain⟨t',rfl⟩:=ry;exact PySem.EqNone.eq_none_int (hG I q (by simp))
  |str j=>obtain⟨t',rfl⟩:=ry;exact PySem.EqNone.eq_none_str (hG I q (by simp))
  |_=>exact absurd (show false=true from hs) aB
 |bl i=>
  cases rx
  cases y with
  |non=>cases ry;exact PySem.EqNone.eq_bool_none (hG I q (by simp))
  |bl j=>cases ry;exact eq_bool (hG I q Fd)
  |str j=>obtain⟨t',rfl⟩:=ry;exact PySem.EqMixed.eq_bool_str (hG I q (by simp))
  |_=>exact absurd (show false=true from hs) aB
 |int i=>
  obtain⟨t,rfl⟩:=rx
  cases y with
  |non=>cases ry;exact PySem.EqNone.eq_int_none (hG I q (by simp))
  |int j=>obtain⟨t',rfl⟩:=ry;exact eq_int (hG I q BX)
  |str j=>obtain⟨t',rfl⟩:=ry;exact PySem.EqMixed.eq_int_str (hG I q (by simp))
  |_=>exact absurd (show false=true from hs) aB
 |str i=>
  obtain⟨t,rfl⟩:=rx
  cases y with
  |non=>cases ry;exact PySem.EqNone.eq_str_none (hG I q (by simp))
  |bl j=>cases ry;exact PySem.EqMixed.eq_str_bool (hG I q (by simp))
  |int j=>obtain⟨t',rfl⟩:=ry;exact PySem.EqMixed.eq_str_int (hG I q (by simp))
  |str j=>obtain⟨t',rfl⟩:=ry;exact eq_str (hG I q BW)
  |_=>exact absurd (show false=true from hs) aB
 |byt i=>
  obtain⟨t,rfl⟩:=rx
  cases y with
  |byt j=>obtain⟨t',rfl⟩:=ry;exact PySem.W.eq_bytes (hG I q BY)
  |_=>exact absurd (show false=true from hs) aB
 |_=>cases y<;>exact absurd (show false=true from hs) aB
theorem zd:OpR X (compareOp .NotEq) rNe:=by
 intro pins s σ H x y v u Q I rx ry h
 obtain⟨hs,q⟩:=h
 cases x with
 |non=>
  cases rx
  cases y with
  |non=>cases ry;exact PySem.EqNone.ne_none_none (hG I q (by simp))
  |bl j=>cases ry;exact PySem.EqNone.ne_none_bool (hG I q (by simp))
  |int j=>obtain⟨t',rfl⟩:=ry;exact PySem.EqNone.ne_none_int (hG I q (by simp))
  |str j=>obtain⟨t',rfl⟩:=ry;exact PySem.EqNone.ne_none_str (hG I q (by simp))
  |_=>exact absurd (show false=true from hs) aB
 |bl i=>
  cases rx
  cases y with
  |non=>cases ry;exact PySem.EqNone.ne_bool_none (hG I q (by simp))
  |bl j=>cases ry;exact ne_bool (hG I q (cf not Fd))
  |str j=>obtain⟨t',rfl⟩:=ry;exact PySem.EqMixed.ne_bool_str (hG I q (by simp))
  |_=>exact absurd (show false=true from hs) aB
 |int i=>
  obtain⟨t,rfl⟩:=rx
  cases y with
  |non=>cases ry;exact PySem.EqNone.ne_int_none (hG I q (by simp))
  |int j=>obtain⟨t',rfl⟩:=ry;exact ne_int (hG I q (cf not BX))
  |str j=>obtain⟨t',rfl⟩:=ry;exact PySem.EqMixed.ne_int_str (hG I q (by simp))
  |_=>exact absurd (show false=true from hs) aB
 |str i=>
  obtain⟨t,rfl⟩:=rx
  cases y with
  |non=>cases ry;exact PySem.EqNone.ne_str_none (hG I q (by simp))
  |bl j=>cases ry;exact PySem.EqMixed.ne_str_bool (hG I q (by simp))
  |int j=>obtain⟨t',rfl⟩:=ry;exact PySem.EqMixed.ne_str_int (hG I q (by simp))
  |str j=>obtain⟨t',rfl⟩:=ry;exact ne_str (hG I q (cf not BW))
  |_=>exact absurd (show false=true from hs) aB
 |byt i=>
  obtain⟨t,rfl⟩:=rx
  cases y with
  |byt j=>obtain⟨t',rfl⟩:=ry;exact PySem.W.ne_bytes (hG I q (cf not BY))
  |_=>exact absurd (show false=true from hs) aB
 |_=>cases y<;>exact absurd (show false=true from hs) aB
theorem J0:OpR X (compareOp .Lt) (rI0 λi j=>.bl (decide (i<j))):=J5 λ_ _ _ _ _ _ _ q=>lt_int q
theorem J4:OpR X (compareOp .LtE) (rI0 λi j=>.bl (decide (i<=j))):=J5 λ_ _ _ _ _ _ _ q=>le_int q
theorem jW (b:Expr)(h:op≠ .In:=by decide)(h2:op≠ .NotIn:=by decide):behindInMarks op b=false:=by
 have e1:(op==CmpOp.In)=false:=by cases op<;>first |rfl |exact absurd rfl h
 have e2:(op==CmpOp.NotIn)=false:=by cases op<;>first |rfl |exact absurd rfl h2
 cases b<;>simp[behindInMarks,e1,e2]
theorem Bx {r:R2}(ho:OpR X (compareOp op) r)(ha:PE X a ta)(hb:PE X b tb)(hm:behindInMarks op b=false):PE X (.Compare a [op] [b] pos) (tOp r ta tb):=by
 intro pins s σ H Q I h
 exact wpAny_Compare1 (Jf ha hb I h λv u s2 x y H2 I2 rx ry q=>ho pins s2 σ H2 x y v u Q I2 rx ry q) hm
noncomputable def Jy (t:TE):TT:=λσ H Q=>t σ H λx H'=>∃ k,x = .bl k/\Q k H'
theorem iC {r:R2}(ho:OpR X (compareOp op) r)(ha:PE X a ta)(hb:PE X b tb)(hm:behindInMarks op b=false):PT X (.Compare a [op] [b] pos) (Jy (tOp r ta tb)):=by
 intro pins s σ H Q I h
 refine wpAny_isTrue_Compare1 (thn (ha pins s σ H _ I h) λv s1 ⟨x,H1,I1,r1,q1⟩=>thn (hb pins s1 σ H1 _ I1 q1) λu s2 ⟨y,H2,I2,r2,q2⟩=>
  thn (ho pins s2 σ H2 x y v u _ I2 r1 r2 q2) λc s3 ⟨z,H3,I3,r3,k,e,q3⟩=>?_) hm
 subst e
 cases r3
 exact cS ⟨H3,I3,q3⟩
noncomputable def HD (r r':R2)(ta tb tc:TE):TE:=λσ H Q=>ta σ H λx H1=>tb σ H1 λy H2=>r x y H2 λz H3=>∃ k,z = .bl k/\
 (if k=true then tc σ H3 λw' H4=>r' y w' H4 Q else Q (.bl false) H3)
theorem Ec {op':CmpOp}{r r':R2}(ho:OpR X (compareOp op) r)(ho':OpR X (compareOp op') r')(ha:PE X a ta)(hb:PE X b tb)(hc:PE X c tc)
  (hm:lastMarks [op,op'] [b,c]=false:=by with_unfolding_all rfl):PE X (.Compare a [op,op'] [b,c] pos) (HD r r' ta tb tc):=by
 intro pins s σ H Q I h
 refine Compare_chain (thn (ha pins s σ H _ I h) λv s1 ⟨x,H1,I1,r1,q1⟩=>chain_link (thn (hb pins s1 σ H1 _ I1 q1) λu s2 ⟨y,H2,I2,r2,q2⟩=>
  thn (ho pins s2 σ H2 x y v u _ I2 r1 r2 q2) λd s3 ⟨z,H3,I3,r3,k,e,q3⟩=>?_)) hm
 subst e
 cases r3
 refine cS ?_
 cases k with
 |false=>exact ite_ff ⟨.bl false,H3,I3,rfl,q3⟩
 |true=>exact ite_tt (chain_last (thn (hc pins s3 σ H3 _ I3 q3) λw' s4 ⟨z',H4,I4,r4,q4⟩=>ho' pins s4 σ H4 y z' u w' Q I4 r2 r4 q4))
noncomputable def K7 (K:PySem.W.Frag)(x:V)(H:Hp)(k:Bool):Prop:=
 match x with
 |.non=>k=false
 |.bl b=>k=b
 |.int i=>k=(i !=0)
 |.str y=>y.length<=sizeLine/\k=((y.length:Int) !=0)
 |.byt y=>y.size<=sizeLine/\k=((y.size:Int) !=0)
 |.ref p=>(∃ xs,SqL K H p xs/\k = !xs.isEmpty)\/(∃ xs,SqT K H p xs/\k = !xs.isEmpty)\/∃ kvs,H p=some (.dK kvs)/\k = !kvs.isEmpty
 |_=>False
theorem AL {κ:Type}{kvs:List (κ×V)}{vs:List (κ×Value)}(r:KV kvs vs):(!vs.isEmpty) = !kvs.isEmpty:=by
 cases r<;>rfl
theorem vd {xs:List V}{its:List Value}(r:Vals xs its):(!its.toArray.isEmpty) = !xs.isEmpty:=by
 cases r<;>simp
theorem yc:(sizeLine:Nat)<2 ^ 63:=by rw[cy];decide
theorem Hx:Sh X (λx H Q=>∃ k,K7 X.K x H k/\Q k H):=by
 intro pins s σ H x v Q I rx h
 obtain⟨k,e,q⟩:=h
 have hl:=yc
 have hs:sizeLine=16777216:=cy
 cases x with
 |non=>
  cases rx
  have e':k=false:=e
  subst e'
  exact truthy_none ⟨H,I,q⟩
 |bl b=>
  cases rx
  have e':k=b:=e
  subst e'
  exact cS ⟨H,I,q⟩
 |int i=>
  obtain⟨t,rfl⟩:=rx
  have e':k=(i !=0):=e
  subst e'
  exact PySem.P.truthy_int ⟨H,I,q⟩
 |str y=>
  obtain⟨t,rfl⟩:=rx
  obtain⟨hy,e'⟩:y.length<=sizeLine/\k=((y.length:Int) !=0):=e
  subst e'
  exact PySem.P.truthy_str (by omega) ⟨H,I.tok _,q⟩
 |byt y=>
  obtain⟨t,rfl⟩:=rx
  obtain⟨hy,e'⟩:y.size<=sizeLine/\k=((y.size:Int) !=0):=e
  subst e'
  exact PySem.W.truthy_bytes (by omega) ⟨H,I.tok _,q⟩
 |ref p=>
  cases rx
  have e':(∃ xs,SqL X.K H p xs/\k = !xs.isEmpty)\/(∃ xs,SqT X.K H p xs/\k = !xs.isEmpty)\/∃ kvs,H p=some (.dK kvs)/\k = !kvs.isEmpty:=e
  rcases e' with⟨xs,hx,e'⟩|⟨xs,hx,e'⟩|⟨kvs,hx,e'⟩
  ·subst e'
   obtain⟨its,r,pl,hz⟩:=I.list hx
   have hlen:=r.length
   exact wpAny_truthy_list pl.isList (by simp only[aK];omega) ⟨H,I.tok _,by rw[vd r];exact q⟩
  ·subst e'
   obtain⟨its,r,pl,hz⟩:=I.tuple hx
   have hlen:=r.length
   exact truthy_tuple pl (by simp only[aK];omega) ⟨H,I.tok _,by rw[vd r];exact q⟩
  ·subst e'
   obtain⟨hz,hS,vs,r,m⟩:kvs.length<=sizeLine/\(p==sysModules)=false/\∃ vs,KV kvs vs/\s.heap.DictOf (gu X.prog X.w) p vs:=I.hok p _ hx
   have hlen:kvs.length=vs.length:=bX r
   exact wpAny_truthy_dict hS m (by omega) ⟨H,I.tok _,by rw[AL r];exact q⟩
 |_=>exact(show False from e).elim
theorem yX (ha:PE X a ta)(he:∀ whole,isTrue a X.env whole=(do let v <-whole;standAt a.pos;holding [v] (truthy v))):
  PT X a (λσ H Q=>ta σ H λx H'=>∃ k,K7 X.K x H' k/\Q k H'):=by
 intro pins s σ H Q I h
 exact isTrue_plain (thn (ha pins s σ H _ I h) λv s1 ⟨x,H1,I1,r1,q1⟩=>Hx pins s1 σ H1 x v Q I1 r1 q1) (he _)
theorem vals1 {x:V}(r:Vals [x] us):∃ u,us = [u]/\RelV x u:=by
 cases r with
 |cons r1 r2=>cases r2;exact⟨_,rfl,r1⟩
theorem vals2 {x y:V}(r:Vals [x,y] us):∃ u w',us = [u,w']/\RelV x u/\RelV y w':=by
 cases r with
 |cons r1 r2=>
  cases r2 with
  |cons r3 r4=>cases r4;exact⟨_,_,rfl,r1,r3⟩
theorem Fq:kG X (.builtin "abs") (λxs H Q=>∃ i,xs = [.int i]/\Q (.int (if i<0 then -i else i)) H):=by
 intro pins s σ H xs us Q I r h
 obtain⟨i,rfl,q⟩:=h
 obtain⟨u,rfl,t,rfl⟩:=vals1 r
 exact call_abs_int λu tk=>⟨.int (if i<0 then -i else i),H,I.tok _,⟨_,rfl⟩,q⟩
theorem xk (hc:X.calm=true):kG X (.builtin "max") (λxs H Q=>∃ i j,xs = [.int i,.int j]/\Q (.int (if j>i then j else i)) H):=by
 intro pins s σ H xs us Q I r h
 obtain⟨i,j,rfl,q⟩:=h
 obtain⟨u,w',rfl,⟨t,rfl⟩,⟨t',rfl⟩⟩:=vals2 r
 refine max_two_ints (I.ok.hd hc) λh' tk k=>⟨_,H,I.kept k,?_,q⟩
 by_cases hj:j>i
 ·rw[aQ hj,aQ hj];exact⟨_,rfl⟩
 ·rw[aG hj,aG hj];exact⟨_,rfl⟩
theorem xj (hc:X.calm=true):kG X (.builtin "min") (λxs H Q=>∃ i j,xs = [.int i,.int j]/\Q (.int (if j<i then j else i)) H):=by
 intro pins s σ H xs us Q I r h
 obtain⟨i,j,rfl,q⟩:=h
 obtain⟨u,w',rfl,⟨t,rfl⟩,⟨t',rfl⟩⟩:=vals2 r
 refine min_two_ints (I.ok.hd hc) λh' tk k=>⟨_,H,I.kept k,?_,q⟩
 by_cases hj:j<i
 ·rw[aQ hj,aQ hj];exact⟨_,rfl⟩
 ·rw[aG hj,aG hj];exact⟨_,rfl⟩
theorem Dk:kG X (.type "int") (λxs H Q=>(∃ i,xs = [.int i]/\Q (.int i) H)\/∃ k,xs = [.bl k]/\Q (.int (if k then 1 else 0)) H):=by
 intro pins s σ H xs us Q I r h
 rcases h with⟨i,rfl,q⟩|⟨k,rfl,q⟩
 ·obtain⟨u,rfl,t,rfl⟩:=vals1 r
  exact call_int_int ⟨.int i,H,I,⟨_,rfl⟩,q⟩
 ·obtain⟨u,rfl,r1⟩:=vals1 r
  cases r1
  exact call_int_bool ⟨.int (if k then 1 else 0),H,I.tok _,⟨_,rfl⟩,q⟩
end
theorem rS.some_of {v:V}{o:Option Value}(r:rS (some v) o):∃ u,o=some u/\RelV v u:=by
 cases o with
 |none=>exact(show False from r).elim
 |some u=>exact⟨u,rfl,r⟩
structure m6 (k:Nat)(A:Around):Prop where
 hd:A.handled=none
 dp:A.depth+3*k+5<recursionLimit
 un:A.units+16*k+200<cLine
theorem m6.mono {j k:Nat}(r:m6 k A)(h:j<=k):m6 j A:=⟨r.hd,by have:=r.dp;omega,by have:=r.un;omega⟩
theorem m6.deeper {k:Nat}(r:m6 (k+1) A)(env:Env):m6 k (A.deeper env):=
 ⟨r.hd,by have:=r.dp;show A.depth+1+3*k+5<_;omega,by have:=r.un;show A.units+3+16*k+200<_;omega⟩
theorem m6.depth {k:Nat}(r:m6 k A):A.depth<recursionLimit:=by have:=r.dp;omega
theorem m6.units {k:Nat}(r:m6 k A):A.units+64<cLine:=by have:=r.un;omega
noncomputable def Hz:TA:=λ_ H Q=>Q [] H
noncomputable def Bc (ta:TE)(tr:TA):TA:=λσ H Q=>ta σ H λx H1=>tr σ H1 λxs H2=>Q (x::xs) H2
section
variable {X:Cx}{e:Expr}{es:List Expr}{te:TE}{t:TA}{pos:Pos}
theorem fG:PA X [] Hz:=λ_ _ _ _ H Q I h=>Calls.spliced_nil ⟨[],H,I,.nil,h⟩
theorem fD (ha:PE X e te)(hr:PA X es t)(hs:starEach (e::es) X.env=(false,eval e X.env)::starEach es X.env:=by rfl):PA X (e::es) (Bc te t):=by
 intro pos pins s σ H Q I h
 rw[hs]
 show wpAny _ _ (spliced ((false,eval e X.env)::backTo pos (starEach es X.env))) _ _ s
 refine Calls.spliced_cons (thn (ha pins s σ H _ I h) λu s1 ⟨x,H1,I1,r1,q1⟩=>?_)
 exact thn (hr pos pins s1 σ H1 _ I1 q1) λus s2 ⟨xs,H2,I2,r2,q2⟩=>⟨x::xs,H2,I2,.cons r1 r2,q2⟩
noncomputable def Jw (t:TA):TE:=λσ H Q=>t σ H λxs H1=>xs.length<=sizeLine/\∀ p,H1 p=none->Q (.ref p) (upd H1 p (.tup xs))
noncomputable def JE (t:TA):TE:=λσ H Q=>t σ H λxs H1=>xs.length<=sizeLine/\∀ p,H1 p=none->Q (.ref p) (upd H1 p (.lst xs))
theorem gA {x1}(h:PA X es t):PE X (.Tuple es x1 pos) (Jw t):=by
 intro pins s σ H Q I hq
 refine wpAny_Tuple_spliced (thn (h pos pins s σ H _ I hq) λus s1 ⟨xs,H1,I1,r,z,q⟩=>⟨by rw[<-r.length];exact z,?_⟩)
 have hf:H1 s1.heap.objs.size=none:=I1.hok.fresh (ar _)
 refine⟨.ref s1.heap.objs.size,upd H1 s1.heap.objs.size (.tup xs),I1.laid (t':=s1.toks) (λb u e=>ax _ e) (ar _) ?_,rfl,q _ hf⟩
 exact⟨z,us,r,⟨_,aR _ rfl,rfl,_,rfl⟩⟩
theorem gJ (h:PA X es t):PE X (.List es pos) (JE t):=by
 intro pins s σ H Q I hq
 refine wpAny_List_spliced (thn (h pos pins s σ H _ I hq) λus s1 ⟨xs,H1,I1,r,z,q⟩=>⟨by rw[<-r.length];exact z,?_⟩)
 have hf:H1 s1.heap.objs.size=none:=I1.hok.fresh (ar _)
 refine⟨.ref s1.heap.objs.size,upd H1 s1.heap.objs.size (.lst xs),I1.laid (t':=s1.toks) (λb u e=>ax _ e) (ar _) ?_,rfl,q _ hf⟩
 exact⟨z,us,0,r,aR _ rfl⟩
end
noncomputable abbrev Sp:=List V->Hp->VK->XK->Prop
noncomputable abbrev CXT:=List Env->Hp->Shared->XK->Value->Shared->Prop
structure GS (P:Program)(w:World)(K:PySem.W.Frag)(mg:Str->Option Value)(base:Heap)(A:Around)(outer:List Env)(s:Shared)(H:Hp):Prop where
 frames:A.frames=some outer
 mod:Mod K mg base
 bs:∀ b o,base.get? b=some o->s.heap.get? b=some o/\H b=none
 bsz:base.objs.size<=s.heap.objs.size
 sy:s.heap.FunFrames base outer
 frf:∀ b∈frs outer,H b=none
 hok:HOk P w H s.heap
 bare:AllBare s.gens
noncomputable def CE (outer:List Env)(P:Program)(w:World)(H:Hp)(s:Shared)(Q:VK)(u:Value)(s':Shared):Prop:=
 ∃ v H',s'.os=s.os/\AllBare s'.gens/\Un (frs outer) [] H H' s.heap s'.heap/\HOk P w H' s'.heap/\RelV v u/\Q v H'
noncomputable def CR (CX:CXT)(outer:List Env)(P:Program)(w:World)(H:Hp)(s:Shared)(Q:VK)(E:XK)(r:Result)(s':Shared):Prop:=
 match r with
 |.ok (.ret u)=>CE outer P w H s Q u s'
 |.ok _=>False
 |.error e=>CX outer H s E e s'
structure fV (P:Program)(w:World)(K:PySem.W.Frag)(mg:Str->Option Value)(base:Heap)(CX:CXT)(k:Nat)(f:Addr)(fd:FuncData)(ps:List Str)(sp:Sp):Prop where
 len:∀ vs H Q E,sp vs H Q E->vs.length=ps.length
 run:∀ (A:Around) (outer:List Env) (s:Shared) (H:Hp) (args:Args) (us:List Value) (vs:List V) (Q:VK) (E:XK),m6 k A->GS P w K mg base A outer s H->BindsTo s fd args (ps.zip us)->Vals vs us->sp vs H Q E->
  codeAny (model P w) A (.call (.ref f) args) (CR CX outer P w H s Q E) s
section
variable {X:Cx}{pins:List (Addr×Obj)}{σ:St}{H:Hp}{s s':Shared}
theorem Inv.KY (I:Inv X pins σ H s):GS X.prog X.w X.K X.mg X.base X.A X.stack s H:=
 ⟨I.ok.frames,I.ok.mod,I.bs,bw I.ok.bsz I.sz,I.stack,I.xw,I.hok,I.bare⟩
theorem Inv.after {Q:VK}(I:Inv X pins σ H s)(h:CE X.stack X.prog X.w H s Q u s'):EP X pins σ Q u s':=by
 obtain⟨v,H',os,bare,un,hok,r,q⟩:=h
 obtain⟨hh,g,d,t,os'⟩:=s'
 obtain rfl:os'=s.os:=os
 exact⟨v,H',I.call (h':=hh) (g':=g) (d':=d) (t':=t) (ch:=[]) un hok bare (λb z=>absurd z (by simp)),r,q⟩
end
noncomputable def JH (sp:Sp)(dvs:List V)(E:XK)(t:TA):TE:=λσ H Q=>t σ H λvs H1=>sp (vs++dvs) H1 Q E
noncomputable def Binds (K:PySem.W.Frag)(fd:FuncData)(ps:List Str)(ds:List Value):Prop:=
 ∀ (s:Shared) (us:List Value),K.In s.heap->(us++ds).length=ps.length->BindsTo s fd ⟨us,[]⟩ (ps.zip (us++ds))
theorem Binds.all {fd:FuncData}{ps:List Str}(h:∀ us:List Value,us.length=ps.length->bindArgs fd ⟨us,[]⟩=pure (ps.zip us)):Binds K fd ps []:=λs us _ hl=>by
 rw[dS]at hl ⊢
 exact .of_eq (h us hl)
noncomputable def Passes (CX:CXT)(X:Cx)(E:XK):Prop:=∀ (pins:List (Addr×Obj)) (σ:St) (H:Hp) (s:Shared) (e:Value) (s':Shared),Inv X pins σ H s->CX X.stack H s E e s'->X.xe e s'
section
variable {X:Cx}{CX:CXT}{k:Nat}{f C:Addr}{fd:FuncData}{ps:List Str}{sp:Sp}{dvs:List V}{ds:List Value}{E:XK}{x m:Str}{p pos apos:Pos}{e o:Expr}{es:List Expr}{ta:TE}{t:TA}
theorem HJ {Q:VK}{vs:List V}(F:fV X.prog X.w X.K X.mg X.base CX k f fd ps sp)(hr:m6 k X.A)(hb:Binds X.K fd ps ds)(hd:Vals dvs ds)(hx:Passes CX X E)
  (I:Inv X pins σ H s) (r:Vals vs us) (h:sp (vs++dvs) H Q E):wpAny (model X.prog X.w) X.A (call (.ref f) us) (EP X pins σ Q) X.xe s:=by
 have r2:Vals (vs++dvs) (us++ds):=r.append hd
 have hl:(us++ds).length=ps.length:=by rw[<-r2.length];exact F.len _ _ _ _ h
 refine wpAny_call (codeAny_mono (F.run X.A X.stack s H ⟨us,[]⟩ (us++ds) (vs++dvs) Q E hr I.KY (hb s us I.kIn hl) r2 h) λr s' hq=>?_)
 cases r with
 |error e=>exact hx pins σ H s e s' I hq
 |ok fl=>
  cases fl with
  |ret u=>exact I.after hq
  |next=>exact False.elim hq
  |brk=>exact False.elim hq
  |cont=>exact False.elim hq
theorem fP (F:fV X.prog X.w X.K X.mg X.base CX k f fd ps sp)(hr:m6 k X.A)(hg:Gl X x)(hm:X.mg x=some (.ref f))(hk:PySem.W.keepIn X.K (.ref f)=true)(hb:Binds X.K fd ps ds)(hd:Vals dvs ds)(hx:Passes CX X E)
  (ha:PA X (e::es) t) (hdb:(x==("__debug__" :Str))=false:=by decide) (he:starEach (e::es) X.env=(false,eval e X.env)::starEach es X.env:=by rfl) (hpl:(backTo pos (starEach es X.env)).any (·.1)=false:=by rfl):
  PE X (.Call (.Name x p) (e::es) [] pos) (JH sp dvs E t):=by
 intro pins s σ H Q I h
 refine fy (oA I hg hm ?_ hdb)
 refine PySem.W.callWith_K (h₀:=X.base) I.ok.mod.kin hk (thn (ha pos pins s σ H _ I h) λus s1 ⟨vs,H1,I1,r,q⟩=>⟨I1.kIn,?_⟩) he hpl
 exact HJ F hr hb hd hx I1 r q
end
structure gf (N P:List Str)(sc:Scope):Prop where
 kind:sc.kind = .function
 co:sc.isCoroutine=false
 gen:sc.isGenerator=false
 nd:N.Nodup
 pre:N.take P.length=P
 par:∀ x∈P,sc.names.lookup x=some .local\/sc.names.lookup x=some .cell
 Ii:∀ y∈sc.names,y.2≠ .free
theorem xn {kindOf:Str->Option NameKind}{x:Str} :∀ {binds:List (Str×Value)}{m:Str->Option Value},(∀ v,(x,v)∉binds)->bindL kindOf binds m x=m x
 |[],_,_=>rfl
 |(n,v)::r,m,h=>by
  unfold bindL
  rw[xn λw hw=>h w (aw _ hw)]
  split
  ·have:x≠n:=by rintro rfl;exact h v aC
   simp[this]
  ·rfl
theorem xp {kindOf:Str->Option NameKind}{x:Str} :∀ {binds:List (Str×Value)}{m:Str->Option Value},(∀ v,(x,v)∉binds)->bindC kindOf binds m x=m x
 |[],_,_=>rfl
 |(n,v)::r,m,h=>by
  unfold bindC
  rw[xp λw hw=>h w (aw _ hw)]
  split
  ·rfl
  ·have:x≠n:=by rintro rfl;exact h v aC
   simp[this]
theorem xo {kindOf:Str->Option NameKind}{x:Str}{v:Value} :∀ {P:List Str}{vs:List Value}{i:Nat}{m:Str->Option Value},P.Nodup->P[i]? = some x->vs[i]? = some v->kindOf x=some .local->
  bindL kindOf (P.zip vs) m x=some v
 |[],_,_,_,_,h,_,_=>by simp at h
 |_::_,[],_,_,_,_,h,_=>by simp at h
 |p::P,w::vs,0,m,nd,h1,h2,hk=>by
  simp at h1 h2;subst h1;subst h2
  show bindL kindOf ((p,w)::P.zip vs) m p=_
  unfold bindL
  rw[xn λv hv=>(bq.mp nd).1 (List.of_mem_zip hv).1,aQ hk]
  simp
 |p::P,w::vs,i+1,m,nd,h1,h2,hk=>by
  show bindL kindOf ((p,w)::P.zip vs) m x=_
  unfold bindL
  exact xo (i:=i) (bq.mp nd).2 (by simpa using h1) (by simpa using h2) hk
theorem xq {kindOf:Str->Option NameKind}{x:Str}{v:Value} :∀ {P:List Str}{vs:List Value}{i:Nat}{m:Str->Option Value},P.Nodup->P[i]? = some x->vs[i]? = some v->kindOf x≠some .local->
  bindC kindOf (P.zip vs) m x=some v
 |[],_,_,_,_,h,_,_=>by simp at h
 |_::_,[],_,_,_,_,h,_=>by simp at h
 |p::P,w::vs,0,m,nd,h1,h2,hk=>by
  simp at h1 h2;subst h1;subst h2
  show bindC kindOf ((p,w)::P.zip vs) m p=_
  unfold bindC
  rw[xp λv hv=>(bq.mp nd).1 (List.of_mem_zip hv).1,aG hk]
  simp
 |p::P,w::vs,i+1,m,nd,h1,h2,hk=>by
  show bindC kindOf ((p,w)::P.zip vs) m x=_
  unfold bindC
  exact xq (i:=i) (bq.mp nd).2 (by simpa using h1) (by simpa using h2) hk
noncomputable def start (N:List Str)(vs:List V):St:=vs.map some++List.replicate (N.length-vs.length) none
noncomputable def yo (CX:CXT)(P:Program)(w:World)(K:PySem.W.Frag)(mg:Str->Option Value)(base:Heap)(N:List Str)(qual:Str)(scope:Scope)(f:Addr)(cd:Value)(A:Around)(outer:List Env)(s:Shared)(H:Hp)(E:XK):Cx where
 prog:=P
 w:=w
 K:=K
 mg:=mg
 base:=base
 A:=A.deeper (envOfC qual scope s.heap.objs.size f cd)
 N:=N
 s₀:=s
 H₀:=H
 env:=envOfC qual scope s.heap.objs.size f cd
 outer:=outer
 stack:=envOfC qual scope s.heap.objs.size f cd::outer
 ex:=[]
 calm:=true
 fn:=λ_=>true
 pn:=[]
 xe:=λe s'=>wpAny (model P w) (A.deeper (envOfC qual scope s.heap.objs.size f cd)) (leaving (envOfC qual scope s.heap.objs.size f cd) e) (λ_ s''=>CX outer H s E e s'') (λe' s''=>CX outer H s E e' s'') s'
theorem zS {sc:Scope}{n:Nat}(h:sc.names.lookup x=some .cell):∃ c,(cellsFrom n sc.names []).lookup x=some c:=by
 have q:=PySem.W.cellsFrom_some sc.names n [] (.inl h)
 exact fv.mp q
theorem CO {CX:CXT}{mg:Str->Option Value}{base:Heap}{N ps:List Str}{qual:Str}{scope:Scope}{f:Addr}{cd:Value}{outer:List Env}{s1:Shared}{E:XK}{vs:List V}
  (S:gf N ps scope) (hd:A.handled=none) (e0:GS P w K mg base A outer s H) (hl:vs.length=ps.length) (r:Vals vs us)
  (x:InCallC s s.heap.objs.size (bindL (envOfC qual scope s.heap.objs.size f cd).kindOf (ps.zip us) λ_=>none) (cellsFrom (s.heap.objs.size+1) scope.names []) (bindC (envOfC qual scope s.heap.objs.size f cd).kindOf (ps.zip us) λ_=>none) s1):
  Inv (yo CX P w K mg base N qual scope f cd A outer s H E) [] (start N vs) H s1:=by
 have hpl:ps.length<=N.length:=by have:=cf List.length S.pre;rw[aM]at this;omega
 obtain⟨h1,tk,rfl,hk⟩:=x.done
 have noA:∀ b:Addr,b∉(yo CX P w K mg base N qual scope f cd A outer s H E).ex:=λb z=>absurd (show b∈([]:List Addr) from z) (by simp)
 refine⟨⟨e0.mod,S.kind,rfl,rfl,ar _,λy z c h1 h2=>?_,λy hy=>?_,λy c _ h=>?_,λ_=>hd,Around.frames_deeper e0.frames,.inr ⟨rfl,rfl⟩,λb z=>absurd z (noA b),e0.bs,e0.bsz,λb _ _=>noA b,λb z=>absurd z (noA b),e0.sy,e0.frf⟩,
  rfl,e0.bare,Un.kept hk,⟨_,x.toInCall.ns,λi y v h1 h2 h3=>?_⟩,λy c h=>⟨_,x.cell y c h⟩,e0.hok.fresh (ar _),λy c h=>?_,λp hp=>absurd (show p∈([]:List (Addr×Obj)) from hp) (by simp),e0.hok.kept hk,?_⟩
 ·exact name_of_addr x.apart (cB h1) (cB h2)
 ·have hy:scope.names.lookup y=some .cell\/scope.names.lookup y=some .free:=hy
  rcases hy with hy |hy
  ·exact zS hy
  ·exact absurd rfl (S.Ii _ (cB hy))
 ·exact bK (x.above y c (cB h))
 ·have hi:i<vs.length:=by
   unfold start at h2
   by_cases hi:i<vs.length
   ·exact hi
   ·rw[ay (by simpa using hi)]at h2
    rw[List.getElem?_replicate]at h2
    split at h2<;>cases h2
  have ha:vs[i]? = some v:=by
   unfold start at h2
   rw[aq (by simpa using hi),ah]at h2
   cases e:vs[i]? with
   |none=>rw[e]at h2;cases h2
   |some a=>rw[e]at h2;cases h2;rfl
  obtain⟨u,hu,rv⟩:=r.get ha
  have hp:ps[i]? = some y:=by
   rw[<-S.pre,fx (by omega)];exact h1
  have ndP:ps.Nodup:=by rw[<-S.pre];exact S.nd.sublist (List.take_sublist _ _)
  refine⟨u,rv,?_⟩
  rcases S.par y (au hp)with k |k
  ·exact .inl ⟨k,xo ndP hp hu k⟩
  ·obtain⟨c,e⟩:=zS (n:=s.heap.objs.size+1) k
   refine .inr ⟨.inl k,c,e,?_⟩
   have q:=x.cell y c e
   rw[xq ndP hp hu (by show scope.names.lookup y≠_;rw[k];decide)]at q
   exact q
 ·exact e0.hok.fresh (bK (x.above y c (cB h)))
 ·unfold start
  show _=N.length
  rw[ak,aa,List.length_replicate]
  omega
theorem Hh {CX:CXT}{mg:Str->Option Value}{base:Heap}{k:Nat}{f:Addr}{name qual:Str}{params:Arguments}{body:List Stmt}{scope:Scope}{dV kV doc pm cdv ct oc:Value}{an od:Option Addr}
  {osl:Array (Option Value)}{N ps:List Str}{sp:Sp} (lk:K.lookup f=some ⟨oc,od,.func (PySem.W.fnOf name qual params body scope dV kV doc pm an cdv ct),osl⟩) (hcd:PySem.W.codeIn K cdv qual=true) (S:gf N ps scope)
  (len:∀ vs H Q E,sp vs H Q E->vs.length=ps.length)
  (zB:∀ (A:Around) (outer:List Env) (s:Shared) (H:Hp) (vs:List V) (Q:VK) (E:XK),m6 k (A.deeper (envOfC qual scope s.heap.objs.size f cdv))->sp vs H Q E->
   ∃ t,PSs (yo CX P w K mg base N qual scope f cdv A outer s H E) body t/\t {nx:=λ_ H'=>Q .non H',rt:=Q} (start N vs) H):
  fV P w K mg base CX (k+1) f (PySem.W.fnOf name qual params body scope dV kV doc pm an cdv ct) ps sp:=by
 refine⟨len,λA outer s H args us vs Q E hr e0 hb r hsp=>?_⟩
 have hl:=len _ _ _ _ hsp
 have KX:K.In s.heap:=e0.mod.kin.keeps λb o e=>(e0.bs b o e).1
 have lim:s.heap.NoLimit:=e0.mod.nolimit.keeps λb o e=>(e0.bs b o e).1
 have KD:∀ y∈ps.zip us,scope.names.lookup y.1=some .local\/(scope.names.lookup y.1=some .cell/\((cellsFrom (s.heap.objs.size+1) scope.names []).lookup y.1).isSome=true):=λ⟨n,v⟩ hy=>by
  rcases S.par n (List.of_mem_zip hy).1 with q |q
  ·exact .inl q
  ·exact .inr ⟨q,PySem.W.cellsFrom_some _ _ _ (.inl q)⟩
 refine codeAny_call_function hr.depth (KX _ _ lk) rfl S.co S.gen rfl (PySem.W.codeRec_of KX hcd) (hb _ _ _ _ ?_)
 refine wpAny_newFunctionEnv_cells S.kind KD λenv he s1 x=>?_
 subst he
 refine⟨lim.keeps x.toInCall.keep,codeAny_func ?_⟩
 obtain⟨t,ht,hq⟩:=zB A outer s H vs Q E (hr.deeper _) hsp
 have I:Inv (yo CX P w K mg base N qual scope f cdv A outer s H E) [] (start N vs) H s1:=CO S hr.hd e0 hl r x
 refine bf (ht [] s1 (start N vs) H _ I hq) (λfl s' hs=>?_) λe s' hs=>hs
 have fin:∀ {σ':St}{H':Hp}{v:V}{u:Value},Inv (yo CX P w K mg base N qual scope f cdv A outer s H E) [] σ' H' s'->RelV v u->Q v H'->CE outer P w H s Q u s':=
  λ{σ' H' v u} J rv q=>⟨v,H',J.os,J.bare,J.base,J.hok,rv,q⟩
 cases fl with
 |ret u=>
  obtain⟨v,σ',H',J,rv,q⟩:=hs
  exact fin J rv q
 |next=>
  obtain⟨σ',H',J,q⟩:=hs
  exact fin (v:=V.non) (u:=Value.none) J rfl q
 |brk=>
  obtain⟨_,_,_,q⟩:=hs
  exact False.elim q
 |cont=>
  obtain⟨_,_,_,q⟩:=hs
  exact False.elim q
section
variable {X:Cx}{x:Str}{p pos:Pos}{e:Expr}{es:List Expr}{t:TA}{id T:String}{r:List V->Hp->VK->Prop}
noncomputable def tCB (r:List V->Hp->VK->Prop)(t:TA):TE:=λσ H Q=>t σ H λvs H1=>r vs H1 Q
theorem gd (hc:kG X (.builtin id) r)(hg:Gl X x)(hm:X.mg x=none)(hv:bootBuiltins x=some (.builtin id))(ha:PA X (e::es) t)(hn:x≠ "__name__" :=by decide)(hdb:(x==("__debug__" :Str))=false:=by decide)
  (he:starEach (e::es) X.env=(false,eval e X.env)::starEach es X.env:=by rfl) (hpl:(backTo pos (starEach es X.env)).any (·.1)=false:=by rfl):PE X (.Call (.Name x p) (e::es) [] pos) (tCB r t):=by
 intro pins s σ H Q I h
 refine fy (pf I hg hm hv ?_ hn hdb)
 exact PyProof.Rows.callWith_builtin1 (thn (ha pos pins s σ H _ I h) λus s1 ⟨vs,H1,I1,r1,q1⟩=>hc pins s1 σ H1 vs us Q I1 r1 q1) he hpl
theorem fX (hc:kG X (.type T) r)(hg:Gl X x)(hm:X.mg x=none)(hv:bootBuiltins x=some (.type T))(ha:PA X (e::es) t)(hn:x≠ "__name__" :=by decide)(hdb:(x==("__debug__" :Str))=false:=by decide)
  (he:starEach (e::es) X.env=(false,eval e X.env)::starEach es X.env:=by rfl) (hpl:(backTo pos (starEach es X.env)).any (·.1)=false:=by rfl):PE X (.Call (.Name x p) (e::es) [] pos) (tCB r t):=by
 intro pins s σ H Q I h
 refine fy (pf I hg hm hv ?_ hn hdb)
 exact bZ (thn (ha pos pins s σ H _ I h) λus s1 ⟨vs,H1,I1,r1,q1⟩=>hc pins s1 σ H1 vs us Q I1 r1 q1) he hpl
end
end L2
namespace HT
open PySem PyProof.Rows
section
variable {prog:Program}{w:World}{A:Around}{E:Value->Shared->Prop}{s:Shared}
noncomputable def sIx (n d:Nat):Option Int->Nat
 |none=>d
 |some v=>if v<0 then(v+(n:Int)).toNat else min v.toNat n
theorem qW (n d:Nat):sIx n d none=d:=rfl
theorem Bs (n d k:Nat):sIx n d (some (k:Int))=min k n:=by
 show(if(k:Int)<0 then((k:Int)+(n:Int)).toNat else min (k:Int).toNat n)=min k n
 rw[aG (by omega),dy]
theorem BZ (v:Int)(n d:Nat):(if v<0 then max (v+(n:Int)) 0 else min v (n:Int))=((sIx n d (some v):Nat):Int):=by
 show(if v<0 then max (v+(n:Int)) 0 else min v (n:Int))=(((if v<0 then(v+(n:Int)).toNat else min v.toNat n):Nat):Int)
 by_cases hv:v<0
 ·simp only[aQ hv];omega
 ·simp only[aG hv];omega
end
end HT
namespace L2
open PySem PySem.Spec PyProof.Rows
noncomputable abbrev TO:=St->Hp->(Option Int->Hp->Prop)->Prop
noncomputable def PO (X:Cx)(e:Option Expr)(t:TO):Prop:=
 ∀ (pins:List (Addr×Obj)) (s:Shared) (σ:St) (H:Hp) (Q:Option Int->Hp->Prop),Inv X pins σ H s->t σ H Q->
  wpAny (model X.prog X.w) X.A (evalPart e X.env) (λu s'=>∃ o H',Inv X pins σ H' s'/\IsPart u o/\Q o H') X.xe s
noncomputable def FT:TO:=λ_ H Q=>Q none H
noncomputable def JA (t:TE):TO:=λσ H Q=>t σ H λx H1=>∃ i,x = .int i/\Q (some i) H1
theorem intsAre_of {ns:List Int} :∀ {us:List Value},Vals (ns.map V.int) us->IntsAre us ns:=by
 induction ns with
 |nil=>intro us r;rw[List.map_nil]at r;cases r;exact .nil
 |cons n ns ih=>
  intro us r
  rw[aZ]at r
  cases r with
  |cons r1 r2=>
   obtain⟨t,e⟩:=r1
   subst e
   exact .cons n t (ih r2)
section
variable {X:Cx}{e:Expr}{te:TE}{lo hi:Option Expr}{tl th:TO}{pos p2:Pos}
theorem lx:PO X none FT:=by
 intro pins s σ H Q I h
 rw[evalPart_none]
 exact aj ⟨none,H,I,.none,h⟩
theorem lu (h:PE X e te):PO X (some e) (JA te):=by
 intro pins s σ H Q I hw
 rw[evalPart_some]
 refine thn (h pins s σ H _ I hw) λu s1 ⟨x,H1,I1,r1,q1⟩=>?_
 obtain⟨i,rfl,q⟩:=q1
 obtain⟨t,rfl⟩:=r1
 exact⟨some i,H1,I1,.int i t,q⟩
noncomputable def SlR (X:Cx)(r:V->Option Int->Option Int->Hp->VK->Prop):Prop:=
 ∀ (pins:List (Addr×Obj)) (s:Shared) (σ:St) (H:Hp) (x:V) (v vl vu:Value) (lo hi:Option Int) (sl:Addr) (Q:VK),Inv X pins σ H s->RelV x v->s.heap.IsSliceOf sl vl vu .none->IsPart vl lo->IsPart vu hi->r x lo hi H Q->
  ∃ T id,typeLookup (.type T) "__getitem__" = pure (some (.builtin id))/\s.TypeIs v T/\wpAny (model X.prog X.w) X.A (getItem v (.ref sl)) (EP X pins σ Q) X.xe s
noncomputable def tSl (r:V->Option Int->Option Int->Hp->VK->Prop)(te:TE)(tl th:TO):TE:=λσ H Q=>te σ H λx H1=>tl σ H1 λl H2=>th σ H2 λu H3=>r x l u H3 Q
theorem jZ {r:V->Option Int->Option Int->Hp->VK->Prop}(hr:SlR X r)(he:PE X e te)(hl:PO X lo tl)(hu:PO X hi th):PE X (.Subscript e (.Slice lo hi none p2) pos) (tSl r te tl th):=by
 intro pins s σ H Q I h
 refine Subscript_ (thn (he pins s σ H _ I h) λv s1 ⟨x,H1,I1,r1,q1⟩=>?_)
 refine wpAny_Slice (thn (hl pins s1 σ H1 _ I1 q1) λvl s2 ⟨l,H2,I2,pl,q2⟩=>thn (hu pins s2 σ H2 _ I2 q2) λvu s3 ⟨u,H3,I3,pu,q3⟩=>?_)
 rw[evalPart_none]
 refine aj ?_
 have I4:Inv X pins σ H3 {s3 with heap:=s3.heap.push {cls:=.type "slice",data:=.fields #[vl,vu,.none]}} :=I3.kept (t':=s3.toks) λb ob q=>ax _ q
 obtain⟨T,id,hT,ht,hg⟩:=hr pins {s3 with heap:=s3.heap.push {cls:=.type "slice",data:=.fields #[vl,vu,.none]}} σ H3 x v vl vu l u s3.heap.objs.size Q I4 r1 (Heap.IsSliceOf.new ..) pl pu q3
 show wpAny (model X.prog X.w) X.A (subscriptTail e (.Slice lo hi none p2) v (.ref s3.heap.objs.size)) (EP X pins σ Q) X.xe {s3 with heap:=s3.heap.push {cls:=.type "slice",data:=.fields #[vl,vu,.none]}}
 exact tail_any (ops:=[.ref s3.heap.objs.size,v]) ht hT hg (by with_unfolding_all rfl)
noncomputable def oQ (xs:List V)(lo hi:Option Int):List V:=(xs.drop (HT.sIx xs.length 0 lo)).take (HT.sIx xs.length xs.length hi-HT.sIx xs.length 0 lo)
theorem zN (xs:List V)(lo hi:Option Int):(oQ xs lo hi).length<=xs.length:=by
 unfold oQ
 rw[aM,bA]
 omega
end
noncomputable def ixN (n:Nat)(i:Int):Option Nat:=if 0<=i then(if i<n then some i.toNat else none)else if -(n:Int)<=i then some (i+n).toNat else none
noncomputable def atI {α:Type}(xs:List α)(i:Int):Option α:=(ixN xs.length i).bind λj=>xs[j]?
theorem Gq {n:Nat}{i:Int}{j:Nat}(h:ixN n i=some j):seqIndex? i n=some j/\j<n/\ -(n:Int)<=i/\i<n:=by
 unfold ixN at h
 by_cases h0:0<=i
 ·rw[aQ h0]at h
  by_cases h1:i<n
  ·rw[aQ h1]at h
   have e:i.toNat=j:=bc h
   exact⟨by rw[seqIndex_of h0 h1,e],by omega,by omega,h1⟩
  ·rw[aG h1]at h;cases h
 ·rw[aG h0]at h
  by_cases h1: -(n:Int)<=i
  ·rw[aQ h1]at h
   have e:(i+n).toNat=j:=bc h
   exact⟨by rw[seqIndex_neg (by omega) h1,e],by omega,h1,by omega⟩
  ·rw[aG h1]at h;cases h
theorem B6 {α:Type}{xs:List α}{i:Int}{v:α}(h:atI xs i=some v):∃ j,seqIndex? i xs.length=some j/\xs[j]? = some v/\j<xs.length/\ -(xs.length:Int)<=i/\i<xs.length:=by
 unfold atI at h
 cases e:ixN xs.length i with
 |none=>rw[e]at h;cases h
 |some j=>
  rw[e]at h
  obtain⟨h1,h2,h3,h4⟩:=Gq e
  exact⟨j,h1,h,h2,h3,h4⟩
theorem p7 {α:Type}{xs:List α}{j:Nat}{v:α}(h:xs[j]? = some v):atI xs (j:Int)=some v:=by
 have hj:j<xs.length:=(af.mp h).1
 have e:ixN xs.length (j:Int)=some j:=by
  unfold ixN
  rw[aQ (by omega),aQ (by omega)];simp
 unfold atI;rw[e];exact h
theorem Ft {α:Type}(xs:List α)(v:α):atI (xs ++ [v]) (-1)=some v:=by
 have hl:(xs ++ [v]).length=xs.length+1:=by simp
 have e:ixN (xs ++ [v]).length (-1)=some xs.length:=by
  unfold ixN
  rw[hl,aG (by decide),aQ (by omega)]
  congr 1
  omega
 unfold atI
 rw[e]
 show(xs ++ [v])[xs.length]? = some v
 simp
noncomputable def GQ (b:Expr):Prop:=∀ o i,subscripted b false o i=operate [o,i] (getItem o i)
noncomputable def IxR (X:Cx)(r:R2):Prop:=
 ∀ (value slice:Expr) (pins:List (Addr×Obj)) (s:Shared) (σ:St) (H:Hp) (x y:V) (v u:Value) (Q:VK),Inv X pins σ H s->RelV x v->RelV y u->r x y H Q->
  subscripted slice false v u=operate [v,u] (getItem v u)->wpAny (model X.prog X.w) X.A (subscriptTail value slice v u) (EP X pins σ Q) X.xe s
noncomputable def MtR (X:Cx)(id:String)(r:V->List V->Hp->VK->Prop):Prop:=
 ∀ (pins:List (Addr×Obj)) (s:Shared) (σ:St) (H:Hp) (x:V) (xs:List V) (v:Value) (us:List Value) (Q:VK),Inv X pins σ H s->RelV x v->Vals xs us->r x xs H Q->
  wpAny (model X.prog X.w) X.A (call (.builtin id) (v::us)) (EP X pins σ Q) X.xe s
section
variable {X:Cx}{a b:Expr}{ta tb:TE}{pos:Pos}
theorem gY {r:R2}(hr:IxR X r)(ha:PE X a ta)(hb:PE X b tb)(hs:GQ b):PE X (.Subscript a b pos) (tOp r ta tb):=by
 intro pins s σ H Q I h
 exact Subscript_ (Jf ha hb I h λv u s2 x y H2 I2 rx ry q=>hr a b pins s2 σ H2 x y v u Q I2 rx ry q (hs _ _))
noncomputable def JR (K:PySem.W.Frag):R2:=λx y H Q=>∃ p xs i v,x = .ref p/\y = .int i/\SqL K H p xs/\atI xs i=some v/\Q v H
noncomputable def JQ (K:PySem.W.Frag):R2:=λx y H Q=>∃ p xs i v,x = .ref p/\y = .int i/\SqT K H p xs/\atI xs i=some v/\Q v H
theorem ig:IxR X (JR X.K):=by
 intro value slice pins s σ H x y v u Q I rx ry h hs
 obtain⟨p,xs,i,z,rfl,rfl,hq,he,q⟩:=h
 cases rx
 obtain⟨t,rfl⟩:=ry
 obtain⟨its,r,pl,hz⟩:=I.list hq
 obtain⟨j,h1,h2,h3,h4,h5⟩:=B6 he
 obtain⟨w,ew,rw'⟩:=r.get h2
 have hl:=r.length
 have hn:=yc
 have fin:EP X pins σ Q w s:=⟨z,H,I,rw',q⟩
 by_cases h0:0<=i
 ·have hj:i.toNat=j:=by
   rw[seqIndex_of h0 h5]at h1
   exact bc h1
  exact item_listR pl.isList h0 (by omega) (by rw[hj];simpa using ew) fin hs
 ·have hj:(i+(its.toArray.size:Int)).toNat=j:=by
   rw[seqIndex_neg (by omega) h4]at h1
   rw[aK,<-hl]
   exact bc h1
  exact subscriptTail_builtinR (x:=w) pl.isList.typeIs slot_list_getitem.lookup
   (wpAny_getItem_list_neg (Q:=λr s'=>r=w/\EP X pins σ Q r s') pl.isList (by omega) (by rw[aK]<;>omega) (by omega) (by rw[hj];simpa using ew) ⟨rfl,fin⟩) hs
theorem i7:IxR X (JQ X.K):=by
 intro value slice pins s σ H x y v u Q I rx ry h hs
 obtain⟨p,xs,i,z,rfl,rfl,hq,he,q⟩:=h
 cases rx
 obtain⟨t,rfl⟩:=ry
 obtain⟨its,r,pl,hz⟩:=I.tuple hq
 obtain⟨j,h1,h2,h3,h4,h5⟩:=B6 he
 obtain⟨w,ew,rw'⟩:=r.get h2
 have hl:=r.length
 have hn:=yc
 have fin:EP X pins σ Q w s:=⟨z,H,I,rw',q⟩
 exact subscriptTail_builtinR (x:=w) pl.typeIs slot_tuple_getitem.lookup
  (getItem_tuple (j:=j) (Q:=λr s'=>r=w/\EP X pins σ Q r s') pl (by omega) (by omega) (by rw[aK,<-hl];exact h1) (by simpa using ew) ⟨rfl,fin⟩) hs
theorem xD (lo hi:Option Int)(n:Nat):(sliceBounds lo hi none n).1=((HT.sIx n 0 lo:Nat):Int)/\(sliceBounds lo hi none n).2.1=((HT.sIx n n hi:Nat):Int)/\(sliceBounds lo hi none n).2.2=1:=by
 refine⟨?_,?_,rfl⟩
 ·cases lo with
  |none=>simp[sliceBounds,HT.sIx]
  |some i=>
   simp only[sliceBounds,HT.sIx,Option.getD_none,show(1:Int)>0 by decide,cV]
   by_cases h:i<0
   ·simp only[h,cV]<;>omega
   ·simp only[h,bG]<;>omega
 ·cases hi with
  |none=>simp[sliceBounds,HT.sIx]
  |some i=>
   simp only[sliceBounds,HT.sIx,Option.getD_none,show(1:Int)>0 by decide,cV]
   by_cases h:i<0
   ·simp only[h,cV]<;>omega
   ·simp only[h,bG]<;>omega
theorem vN (its:List Value)(lo hi:Option Int):slicePick its.toArray lo hi none=((its.drop (HT.sIx its.length 0 lo)).take (HT.sIx its.length its.length hi-HT.sIx its.length 0 lo)).toArray:=by
 obtain⟨h1,h2,h3⟩:=xD lo hi its.toArray.size
 unfold slicePick
 rw[h1,h2,h3]
 simp only[sliceRange_one,pick_run,aK]<;>rfl
noncomputable def Me (K:PySem.W.Frag):V->Option Int->Option Int->Hp->VK->Prop:=λx lo hi H Q=>∃ a xs,x = .ref a/\SqL K H a xs/\∀ p,H p=none->Q (.ref p) (upd H p (.lst (oQ xs lo hi)))
theorem lh:SlR X (Me X.K):=by
 intro pins s σ H x v vl vu lo hi sl Q I rx hs pl pu h
 obtain⟨a,xs,rfl,hx,q⟩:=h
 cases rx
 obtain⟨its,r,ht,hz⟩:=I.list hx
 have hlen:=r.length
 refine⟨"list",_,slot_list_getitem.lookup,ht.isList.typeIs,?_⟩
 refine wpAny_getItem_list_slice ht.isList hs pl pu .none (by simp) ?_ (by rw[aK]<;>omega)
 rw[vN,<-hlen]
 refine⟨.ref s.heap.objs.size,_,I.laid (t':=s.toks) (o:=.lst (oQ xs lo hi)) (λb ob q=>ax _ q) (ar _) ?_,rfl,q _ (I.hok.fresh (ar _))⟩
 exact⟨bw (zN xs lo hi) hz,_,0,(r.drop (HT.sIx xs.length 0 lo)).take (HT.sIx xs.length xs.length hi-HT.sIx xs.length 0 lo),aR _ rfl⟩
theorem gw:kG X (.builtin "len") (λxs H Q=>∃ p ys,xs = [.ref p]/\(SqL X.K H p ys\/SqT X.K H p ys)/\Q (.int ys.length) H):=by
 intro pins s σ H xs us Q I r h
 obtain⟨p,ys,rfl,hq,q⟩:=h
 obtain⟨u,rfl,rx⟩:=vals1 r
 cases rx
 have hn:=yc
 rcases hq with hq |hq
 ·obtain⟨its,r',pl,hz⟩:=I.list hq
  have hlen:=r'.length
  exact Calls.call_len_list pl.isList (by simp only[aK]<;>omega) ⟨.int ys.length,H,I.tok _,⟨s.toks+1,by rw[aK,hlen]⟩,q⟩
 ·obtain⟨its,r',pl,hz⟩:=I.tuple hq
  have hlen:=r'.length
  exact len_tuple pl (by simp only[aK]<;>omega) ⟨.int ys.length,H,I.tok _,⟨s.toks+1,by rw[aK,hlen]⟩,q⟩
theorem iM:kG X (.type "list") (λxs H Q=>∃ p ys,xs = [.ref p]/\(SqL X.K H p ys\/SqT X.K H p ys)/\∀ l,H l=none->Q (.ref l) (upd H l (.lst ys))):=by
 intro pins s σ H xs us Q I r h
 obtain⟨p,ys,rfl,hq,q⟩:=h
 obtain⟨u,rfl,rx⟩:=vals1 r
 cases rx
 have fin:∀ (its:List Value),Vals ys its->ys.length<=sizeLine->∀ (h':Heap) (c':Nat),(∀ b o',s.heap.get? b=some o'->h'.get? b=some o')->
   h'.get? s.heap.objs.size=some {cls:=.type "list",dict:=none,data:=.seq its.toArray c',slots:= #[]} ->EP X pins σ Q (.ref s.heap.objs.size) {s with heap:=h'} :=λits r' hz h' c' kp e=>
  ⟨.ref s.heap.objs.size,_,I.laid (t':=s.toks) kp (ar _) (show iR X.prog X.w _ h' _ (.lst ys) from⟨hz,its,c',r',e⟩),rfl,q _ (I.hok.fresh (ar _))⟩
 rcases hq with hq |hq
 ·obtain⟨its,r',pl,hz⟩:=I.list hq
  have hlen:=r'.length
  obtain⟨o,ho,hc,n,hd⟩:=pl.isList
  exact call_list_seq p (.inl rfl) ho hc hd (λh' c' kp e=>fin its r' hz h' c' kp e) (by simp only[aK]<;>omega)
 ·obtain⟨its,r',pl,hz⟩:=I.tuple hq
  have hlen:=r'.length
  obtain⟨o,ho,hc,n,hd⟩:=pl
  exact call_list_seq p (.inr rfl) ho hc hd (λh' c' kp e=>fin its r' hz h' c' kp e) (by simp only[aK]<;>omega)
theorem gD:kG X (.type "tuple") (λxs H Q=>∃ p ys,xs = [.ref p]/\((SqL X.K H p ys/\∀ l,H l=none->Q (.ref l) (upd H l (.tup ys)))\/(SqT X.K H p ys/\Q (.ref p) H))):=by
 intro pins s σ H xs us Q I r h
 obtain⟨p,ys,rfl,h⟩:=h
 obtain⟨u,rfl,rx⟩:=vals1 r
 cases rx
 rcases h with⟨hq,q⟩|⟨hq,q⟩
 ·obtain⟨its,r',pl,hz⟩:=I.list hq
  have hlen:=r'.length
  refine call_tuple_list pl.isList (λh' kp=>?_) (by simp only[aK]<;>omega)
  have I1:Inv X pins σ H {s with heap:=h'} :=I.kept (t':=s.toks) kp
  have I2:Inv X pins σ (upd H h'.objs.size (.tup ys)) {s with heap:=h'.push {cls:=.type "tuple",data:=.seq its.toArray}} :=
   I1.laid (t':=s.toks) (λb o e=>ax _ e) (ar _) (show iR X.prog X.w _ _ _ (.tup ys) from⟨hz,its,r',IsTup.new _ _⟩)
  exact⟨.ref h'.objs.size,_,I2,rfl,q _ (I1.hok.fresh (ar _))⟩
 ·obtain⟨its,r',pl,hz⟩:=I.tuple hq
  exact call_tuple_same pl ⟨.ref p,H,I,rfl,q⟩
noncomputable def tyV (K:PySem.W.Frag)(T:String)(x:V)(H:Hp):Prop:=match x with
 |.str _=>T = "str"
 |.int _=>T = "int"
 |.ref p=>(T = "list" /\∃ xs,SqL K H p xs)\/(T = "tuple" /\∃ o,K.lookup p=some o/\o.cls = .type "tuple" /\o.dict=none)\/
   (T = "dict" /\((∃ kvs,H p=some (.dK kvs))\/∃ kvs,H p=some (.dT kvs)))\/(T = "set" /\∃ S n,H p=some (.set S n))
 |_=>False
theorem Dw {pins:List (Addr×Obj)}{σ:St}{H:Hp}{s:Shared}{T:String}{x:V}{v:Value}(I:Inv X pins σ H s)(r:RelV x v)(ty:tyV X.K T x H):
  s.TypeIs v T/\∀ a,v = .ref a->∃ ob,s.heap.get? a=some ob/\ob.dict=none:=by
 cases x with
 |str z=>
  obtain⟨t,rfl⟩:=r
  cases(show T = "str" from ty)
  exact⟨typeIs_str s z t,λ_ e=>nomatch e⟩
 |int i=>
  obtain⟨t,rfl⟩:=r
  cases(show T = "int" from ty)
  exact⟨typeIs_int s i t,λ_ e=>nomatch e⟩
 |ref p=>
  cases r
  rcases ty with⟨rfl,xs,hq⟩|⟨rfl,o,hk,hc,hd⟩|⟨rfl,hk⟩|⟨rfl,S,n,hk⟩
  ·obtain⟨its,_,pl,_⟩:=I.list hq
   refine⟨pl.isList.typeIs,λa e=>?_⟩
   cases e
   obtain⟨o,n,e,c,hd,_⟩:=pl
   exact⟨o,e,hd⟩
  ·refine⟨⟨o,I.kIn p o hk,hc⟩,λa e=>?_⟩
   cases e
   exact⟨o,I.kIn _ o hk,hd⟩
  ·have z:∃ o,s.heap.get? p=some o/\o.ExactDict:=by
    rcases hk with⟨kvs,hk⟩|⟨kvs,hk⟩
    ·obtain⟨_,_,_,_,o,_,_,e,ex,_⟩:=I.hok p _ hk
     exact⟨o,e,ex⟩
    ·obtain⟨_,_,_,_,o,_,_,e,ex,_⟩:=I.hok p _ hk
     exact⟨o,e,ex⟩
   obtain⟨o,e,ex⟩:=z
   refine⟨⟨o,e,ex.1⟩,λa e2=>?_⟩
   cases e2
   exact⟨o,e,ex.2.1⟩
  ·obtain⟨o,_,_,_,e,ex,_⟩:=I.hok p _ hk
   refine⟨⟨o,e,ex.1⟩,λa e2=>?_⟩
   cases e2
   exact⟨o,e,ex.2.1⟩
 |_=>exact False.elim ty
noncomputable def Lp (K:PySem.W.Frag)(T:String)(r:V->List V->Hp->VK->Prop)(to:TE):TE:=λσ H Q=>to σ H λx H1=>tyV K T x H1/\r x [] H1 Q
noncomputable def tBM (K:PySem.W.Frag)(T:String)(r:V->List V->Hp->VK->Prop)(to:TE)(t:TA):TE:=λσ H Q=>to σ H λx H1=>tyV K T x H1/\t σ H1 λxs H2=>r x xs H2 Q
variable {o e:Expr}{es:List Expr}{to:TE}{t:TA}{name:Str}{apos kJ:Pos}{T id:String}{r:V->List V->Hp->VK->Prop}
theorem As (pa:PlainAttrs T)(slot:Slot T name id)(hty:typeOf (.builtin id)=pure (.type "method_descriptor"))(hm:MtR X id r)(ho:PE X o to)
  (zC:attributeBase o name X.env (eval o X.env)=eval o X.env:=by rfl) (zy:(apos.endLine==kJ.line)=true:=by rfl):PE X (.Call (.Attribute o name apos) [] [] kJ) (Lp X.K T r to):=by
 intro pins s σ H Q I h
 refine wpAny_Call_method0_late zC zy (thn (ho pins s σ H _ I h) λv s1 ⟨x,H1,I1,r1,ty,q1⟩=>?_)
 obtain⟨h1,h2⟩:=Dw I1 r1 ty
 exact⟨T,id,pa,slot,hty,h1,h2,eN rfl (PySem.evalArgs_none (hm pins s1 σ H1 x [] v [] Q I1 r1 .nil q1))⟩
theorem kK (pa:PlainAttrs T)(slot:Slot T name id)(hty:typeOf (.builtin id)=pure (.type "method_descriptor"))(hm:MtR X id r)(ho:PE X o to)(ha:PA X (e::es) t)
  (zC:attributeBase o name X.env (eval o X.env)=eval o X.env:=by rfl)
  (Pf:((backTo kJ (starEach (e::es) X.env)).all (λx=> !x.1)&&(backToKw kJ (keywordEach [] X.env)).all (λx=>x.1.isSome)
   && decide ((e::es).length+([]:List Keyword).length+(if([]:List Keyword).isEmpty then 0 else 1)<30))=true:=by rfl)
  (zy:(apos.endLine==kJ.line)=true:=by rfl) (hs:starEach (e::es) X.env=(false,eval e X.env)::starEach es X.env:=by rfl) (IK:(backTo kJ (starEach es X.env)).any (·.1)=false:=by rfl):
  PE X (.Call (.Attribute o name apos) (e::es) [] kJ) (tBM X.K T r to t):=by
 intro pins s σ H Q I h
 refine wpAny_Call_method_late zC Pf zy rfl (thn (ho pins s σ H _ I h) λv s1 ⟨x,H1,I1,r1,ty,q1⟩=>?_)
 obtain⟨h1,h2⟩:=Dw I1 r1 ty
 refine⟨T,id,pa,slot,hty,h1,h2,?_⟩
 have hA:=ha kJ pins s1 σ H1 _ I1 q1
 rw[hs]at hA ⊢
 refine eN (by show(false||(backTo kJ (starEach es X.env)).any (·.1))=false;rw[IK]<;>rfl) (Calls.evalArgs_plain ?_)
 exact thn hA λus s2 ⟨vs,H2,I2,r2,q2⟩=>hm pins s2 σ H2 x vs v us Q I2 r1 r2 q2
/- xs.append(e),list.index on a Kb tuple .. are MtR facts of 06m -/
end
noncomputable def MtM (X:Cx)(id:String)(r:V->List V->Hp->VK->Prop):Prop:=
 ∀ (pins:List (Addr×Obj)) (s:Shared) (σ:St) (H:Hp) (x:V) (xs:List V) (v:Value) (us:List Value) (Q:VK),Inv X pins σ H s->RelV x v->Vals xs us->r x xs H Q->
  wpAny (model X.prog X.w) X.A (call (.builtin id) (v::us)) (EP X pins σ Q) X.xe s
theorem Vals.one:∀ {x:V}{us:List Value},Vals [x] us->∃ u,us = [u]/\RelV x u
 |_,_,.cons r .nil=>⟨_,rfl,r⟩
theorem Vals.two {x y:V}{us:List Value}(h:Vals [x,y] us):∃ u v,us = [u,v]/\RelV x u/\RelV y v:=by
 cases h with
 |cons r t=>
  cases t with
  |cons q n=>
   cases n
   exact⟨_,_,rfl,r,q⟩
theorem Vals.zero:∀ {us:List Value},Vals [] us->us = []
 |_,.nil=>rfl
theorem Vals.dropLast {xs:List V}{us:List Value}(h:Vals xs us):Vals xs.dropLast us.dropLast:=by
 induction h with
 |nil=>exact .nil
 |cons r t ih=>
  cases t with
  |nil=>exact .nil
  |cons q t'=>exact .cons r ih
theorem Vals.reverse {xs:List V}{us:List Value}(h:Vals xs us):Vals xs.reverse us.reverse:=by
 induction h with
 |nil=>exact .nil
 |cons r t ih=>rw[dt,dt];exact Vals.append ih (.cons r .nil)
theorem Vals.rep {xs:List V}{us:List Value}(h:Vals xs us):∀ k:Nat,Vals (List.replicate k xs).flatten (List.replicate k us).flatten
 | 0=>.nil
 |k+1=>by
  rw[bP,bP,dw,dw]
  exact Vals.append h (Vals.rep h k)
theorem AX {α:Type}(l:List α):l.eraseIdx (l.length-1)=l.dropLast:=by
 induction l with
 |nil=>rfl
 |cons a r ih=>
  cases r with
  |nil=>rfl
  |cons b r=>
   have e:(a::b::r).length-1=((b::r).length-1)+1:=by
    have h1:(a::b::r).length=r.length+2:=rfl
    have h2:(b::r).length=r.length+1:=rfl
    omega
   rw[e,List.eraseIdx_cons_succ,ih]
   all_goals rfl
theorem foldl_rep (its:List Value):∀ (k:Nat) (acc:List Value),
  List.foldl (λx1 x2=>x1++x2) acc.toArray (List.replicate k its.toArray)=(acc++(List.replicate k its).flatten).toArray
 | 0,acc=>by simp
 |k+1,acc=>by
  have e:acc.toArray++its.toArray=(acc++its).toArray:=by simp
  have e2:(acc++its)++(List.replicate k its).flatten=acc++(List.replicate (k+1) its).flatten:=by
   rw[bP,dw,cN]
  rw[<-e2,<-foldl_rep its k (acc++its),<-e,bP,eR]
section
variable {X:Cx}{pins:List (Addr×Obj)}{σ:St}{H:Hp}{s:Shared}{l b:Addr}{xs ys zs:List V}
theorem Inv.Gj {its its':List Value}{n:Nat}{f:Array Value->Array Value}{t':Nat}(I:Inv X pins σ H s)(hH:H l=some (.lst xs))
  (e:s.heap.get? l=some {cls:=.type "list",data:=.seq its.toArray n}) (hf:f its.toArray=its'.toArray) (hv:Vals ys its') (hz:ys.length<=sizeLine):
  Inv X pins σ (upd H l (.lst ys)) {s with heap:=s.heap.update l (Obj.mapSeq f),toks:=t'} :=by
 have q:=PySem.IsL.update e f
 rw[hf]at q
 refine I.write (x:=l) (e:=l) (by rw[hH];exact trivial) (.inl rfl) (λb' u hb hu=>(Heap.get?_update_other s.heap (Obj.mapSeq f) (bI hb)).trans hu) ⟨_,q⟩ ?_
 exact⟨hz,its',_,hv,q⟩
theorem Inv.Io {its:List Value}{t':Nat}(I:Inv X pins σ H s)(hv:Vals ys its)(hz:ys.length<=sizeLine):
  Inv X pins σ (upd H s.heap.objs.size (.lst ys)) {s with heap:=s.heap.push {cls:=.type "list",data:=.seq its.toArray},toks:=t'} :=
 I.laid (λ_ _ q=>ax _ q) (ar _) ⟨hz,its,0,hv,aR _ rfl⟩
theorem Inv.fresh (I:Inv X pins σ H s):H s.heap.objs.size=none:=I.hok.fresh (ar _)
theorem Inv.ya (I:Inv X pins σ H s)(hH:H l=some (.lst xs)):xs.length<=sizeLine/\∃ (its:List Value) (n:Nat),Vals xs its/\xs.length=its.length/\s.heap.get? l=some {cls:=.type "list",data:=.seq its.toArray n} :=by
 obtain⟨z,its,n,r,e⟩:=I.hok l _ hH
 exact⟨z,its,n,r,r.length,e⟩
theorem El {n:Nat}(h:n<=sizeLine):Builtin.List.listTooLong n=false:=by
 unfold Builtin.List.listTooLong
 exact aW (by omega)
end
section
variable {X:Cx}
noncomputable def F6:V->List V->Hp->VK->Prop:=λx vs H Q=>∃ l xs y,x = .ref l/\vs = [y]/\H l=some (.lst xs)/\xs.length<sizeLine/\Q .non (upd H l (.lst (xs ++ [y])))
theorem iD:MtM X "list.append" F6:=by
 intro pins s σ H x vs v us Q I rx rv h
 obtain⟨l,xs,y,rfl,rfl,hH,hz,q⟩:=h
 cases rx
 obtain⟨u,rfl,ru⟩:=rv.one
 obtain⟨z,its,n,r,hl,e⟩:=I.ya hH
 refine eZ F.slot_list_append ⟨_,e,rfl⟩ F.entry_list_append (F.args_list_append_2 _ _) (PySem.list_append l its.toArray n u (by rw[aK];omega)) ⟨e,?_⟩
 refine⟨.non,_,I.Gj (its':=its ++ [u]) hH e (by simp) (r.append (.cons ru .nil)) ?_,rfl,q⟩
 rw[ak,aP]
 omega
noncomputable def Mf:V->List V->Hp->VK->Prop:=λx vs H Q=>∃ l xs y,x = .ref l/\vs = []/\H l=some (.lst xs)/\xs[xs.length-1]? = some y/\Q y (upd H l (.lst xs.dropLast))
theorem Ik:MtM X "list.pop" Mf:=by
 intro pins s σ H x vs v us Q I rx rv h
 obtain⟨l,xs,y,rfl,rfl,hH,hy,q⟩:=h
 cases rx
 have hus:=rv.zero
 subst hus
 obtain⟨z,its,n,r,hl,e⟩:=I.ya hH
 obtain⟨u,hu,ru⟩:=r.get hy
 have hy':its.toArray[its.toArray.size-1]? = some u:=by
  show its.toArray[its.length-1]? = some u
  rw[<-bC,<-hl]
  exact hu
 refine eZ F.slot_list_pop ⟨_,e,rfl⟩ F.entry_list_pop (F.args_list_pop_1 _) (MeetsSeq.list_pop_last l its.toArray n u hy' (by rw[aK];omega)) ⟨e,?_⟩
 refine⟨y,_,I.Gj (its':=its.dropLast) hH e ?_ r.dropLast ?_,ru,q⟩
 ·show its.toArray.eraseIdxIfInBounds (its.toArray.size-1)=its.dropLast.toArray
  rw[aK,List.eraseIdxIfInBounds_toArray,AX]
 ·rw[bM]
  omega
noncomputable def DX:V->List V->Hp->VK->Prop:=λx vs H Q=>∃ l xs,x = .ref l/\vs = []/\H l=some (.lst xs)/\Q .non (upd H l (.lst xs.reverse))
theorem uV:MtM X "list.reverse" DX:=by
 intro pins s σ H x vs v us Q I rx rv h
 obtain⟨l,xs,rfl,rfl,hH,q⟩:=h
 cases rx
 have hus:=rv.zero
 subst hus
 obtain⟨z,its,n,r,hl,e⟩:=I.ya hH
 refine eZ F.slot_list_reverse ⟨_,e,rfl⟩ F.entry_list_reverse (F.args_list_reverse_1 _) (AutoSeq1.list_reverse_list_0 l its.toArray n (by rw[aK];omega)) ⟨e,?_⟩
 refine⟨.non,_,I.Gj (its':=its.reverse) hH e (by simp) r.reverse ?_,rfl,q⟩
 rw[cR]
 omega
noncomputable def Mi:R2:=λx y H Q=>∃ l b xs zs,x = .ref l/\y = .ref b/\H l=some (.lst xs)/\H b=some (.lst zs)/\xs.length+zs.length<=sizeLine/\∀ p,H p=none->Q (.ref p) (upd H p (.lst (xs++zs)))
theorem nA:OpR X (binaryOp .Add) Mi:=by
 intro pins s σ H x y v u Q I rx ry h
 obtain⟨l,b,xs,zs,rfl,rfl,hH,hB,hz,q⟩:=h
 cases rx
 cases ry
 obtain⟨z,its,n,r,hl,e⟩:=I.ya hH
 obtain⟨z2,Kj,n2,r2,hl2,e2⟩:=I.ya hB
 refine PySem.P.add_list e e2 ?_ (by rw[aK,aK];omega)
 have ea:its.toArray++Kj.toArray=(its++Kj).toArray:=by simp
 rw[ea]
 exact⟨.ref _,_,I.Io (t':=s.toks) (r.append r2) (by rw[ak];omega),rfl,q _ I.fresh⟩
noncomputable def JP:R2:=λx y H Q=>∃ l k xs,x = .ref l/\y = .int k/\H l=some (.lst xs)/\ -(2 ^ 63)<=k/\k<2 ^ 63/\xs.length*k.toNat<=sizeLine/\
 ∀ p,H p=none->Q (.ref p) (upd H p (.lst (List.replicate k.toNat xs).flatten))
theorem len_rep {α:Type}(xs:List α)(k:Nat):(List.replicate k xs).flatten.length=k*xs.length:=by
 induction k with
 |zero=>simp
 |succ k ih=>rw[bP,dw,ak,ih,Nat.succ_mul,Nat.add_comm]
theorem sh:OpR X (binaryOp .Mult) JP:=by
 intro pins s σ H x y v u Q I rx ry h
 obtain⟨l,k,xs,rfl,rfl,hH,h1,h2,hz,q⟩:=h
 cases rx
 obtain⟨t,rfl⟩:=ry
 obtain⟨z,its,n,r,hl,e⟩:=I.ya hH
 have hlen:its.toArray.size*k.toNat<=sizeLine:=by rw[aK,<-hl];exact hz
 have Ph:¬its.toArray.size*k.toNat>(2 ^ 63-1)/8:=by
  have:(sizeLine:Nat)<=(2 ^ 63-1)/8:=by decide
  omega
 have yi:¬(!Builtin.List.listFitsIndex k)=true:=by
  rw[fitsIndex_both h1 h2]
  exact aB
 have KA:¬Builtin.List.listTooLong (its.toArray.size*k.toNat)=true:=by
  rw[El hlen]
  exact aB
 have sx:List.foldl (λx1 x2=>x1++x2) #[] (List.replicate (if its.toArray.isEmpty=true then 0 else k.toNat) its.toArray)=(List.replicate k.toNat its).flatten.toArray:=by
  have f0:∀ m:Nat,List.foldl (λx1 x2=>x1++x2) #[] (List.replicate m its.toArray)=(List.replicate m its).flatten.toArray:=λm=>by
   have:=foldl_rep its m []
   rw[List.nil_append]at this
   exact this
  rw[f0]
  cases its with
  |nil=>simp
  |cons a r'=>rw[aG (by simp)]
 refine wpAny_binaryOp_repeat_ref (T:= "list") (U:= "int") (by decide) ⟨_,e,rfl⟩ (λs'=>typeIs_int s' k t) noFill_list_mul F.fills_int_mul F.slot_int_rmul repeat_list F.slot_int_index.lookup
  (eZ F.slot_int_rmul (typeIs_int s k t) F.entry_int_rmul (F.args_int_rmul_2 _ _) (int___rmul___int_list k t l its.toArray n)
   ⟨e,rfl,⟨_,e,rfl⟩,eZ F.slot_list_mul ⟨_,e,rfl⟩ F.entry_list_mul (F.args_list_mul_2 _ _) (AutoListH.list___mul___list_int_3 l its.toArray n k t yi Ph KA) ⟨e,?_⟩⟩)
 rw[sx]
 exact⟨.ref _,_,I.Io (t':=s.toks) (r.rep k.toNat) (by rw[len_rep,Nat.mul_comm];exact hz),rfl,q _ I.fresh⟩
end
end L2
namespace Att
open PySem PySem.W PySem.Calls PyProof.Rows
theorem tG {P:Params}{h:Heap} :∀ (ns:List Int) (vs:List Value),WellAll P h vs (ns.map WData.int)->IntsAre vs ns:=by
 intro ns
 induction ns with
 |nil=>
  intro vs w
  rw[List.map_nil]at w
  cases w
  exact .nil
 |cons n ns ih=>
  intro vs w
  rw[aZ]at w
  cases w with
  |cons a b=>
   cases a
   exact .cons _ _ (ih _ b)
theorem Cp {l:OpenLaw}{n:Nat}(hn:l.most=some n){P:Params}{h:Heap}{args:List WData}{vals:List Value}
  (zu:l.row.toRowW.claim.pre args=true) (hwl:WellAll P h vals args):
  ∃ a vs ns,vals = [Value.ref a]/\args = [WData.list (ns.map WData.int)]/\h.get? a=some {cls:=.type "list",data:=.seq vs.toArray} /\IntsAre vs ns/\ns.length<=n:=by
 have hsh:WShape.hasAll [] args [.list .int]=true:=(pre_splitW zu).1
 have hc:l.pre.holds [] {args:=args} = true:=(pre_splitW zu).2
 obtain⟨d,r,rfl,h1,h2⟩:=hasAllW_cons hsh
 obtain rfl:=hasAllW_nil h2
 obtain⟨xs,rfl,h3⟩:=hasW_list h1
 obtain⟨ns,rfl⟩:=items_int h3
 have hlen:ns.length<=n:=by
  unfold OpenLaw.pre at hc
  have h4:(WTm.not (.lt (.lit (.int (n:Int))) (.len (.arg 0)))).holds [] {args:=[.list (ns.map .int)]} = true:=by
   have h4:=(holds_andW hc).1
   rw[hn]at h4
   exact h4
  have h5:=condW_of h4 (w_not (w_lt w_lit (w_len_list (w_arg rfl))))
  rw[aa]at h5
  refine Nat.le_of_not_lt λq=>?_
  have q':(n:Int)<((ns.length:Nat):Int):=by omega
  first
   |(rw[bB q']at h5;exact absurd h5 (by decide))
   |(simp at h5;omega)
 cases hwl with
 |cons w1 w2=>
  cases w2
  cases w1 with
  |list ho mP=>exact⟨_,_,ns,rfl,rfl,ho,tG ns _ mP,hlen⟩
theorem Cy (l:OpenLaw)(args:List WData):l.row.toRowW.claim.post args (.bool true) args=true:=
 postW_of (r:=l.row.toRowW) (X:=(true==true))
  (show WShape.has [] (.bool true) .bool=true by first |rfl |decide |simp[WShape.has,WShape.arms,WShape.armsAll])
  (show(WTm.eq .res (.lit (.bool true))).value [] {args:=args,res:=some (.bool true),after:=args} = some (.bool (true==true)) from w_eq_bool (w_res rfl) w_lit) rfl
theorem zV {l:OpenLaw}{n:Nat}{q:Program}{loose:List Str}{XP:(Str->Option Value)->Heap->Prop}{YP:World->Heap->Prop}{d:DefRec}
  (hn:l.most=some n) (hdf:d.params.defaults = [])
  (call:∀ (w:World) (s₀ s₁:Shared) (mg mb:Str->Option Value) (fa:Addr) (o:Obj) (pm cd doc:Value) (a:Addr) (vs:List Value) (ns:List Int),
   Ground q loose [] XP w s₀ mg mb s₁.heap->YP w s₁.heap->
   s₁.heap.get? fa=some o->o.data = .func (docDef d.name d.params d.body d.scope pm cd doc)->s₁.heap.CodeRec cd d.name->mg d.name=some (.ref fa)->
   s₁.heap.get? a=some {cls:=.type "list",data:=.seq vs.toArray} ->IntsAre vs ns->ns.length<=n->s₁.gens = #[]->
   codeAny (model l.prog w) callerA (.call (.ref fa) ⟨[.ref a],[]⟩) (λr s'=>r = .ok (.ret (.bool true))/\OldK s₁.heap s'.heap/\s'.os=s₁.os/\AllBare s'.gens) s₁):
  WalkO q loose XP YP l.row.toRowW d [] (λf vs=>PySem.call f vs):=by
 intro w s₀ s₁ mg mb G Y fa o pm cd doc dV kV ho hd hcd hD hmg hg args vals as zu Ss hrd hwl hlo
 obtain rfl:dV = .none:=Dflts.none hD hdf
 obtain rfl:kV = .none:=Dflts.noKw hD
 obtain⟨a,vs,ns,rfl,rfl,IL,hints,hlen⟩:=Cp hn zu hwl
 refine enter_call (codeAny_mono (call w s₀ s₁ mg mb fa o pm cd doc a vs ns G Y ho (fd_plain hd) hcd hmg IL hints hlen hg) λr s' hq=>?_)
 obtain⟨rfl,h2,h3,h4⟩:=hq
 exact⟨.inl ⟨.bool true,.bool true,[],rfl,λ_=>rfl,.bool true,Cy l _,λ_=>⟨List.Pairwise.nil,λ_ hm=>(nomatch hm)⟩⟩,h2,h3,h4⟩
end Att
namespace L2
open PySem PySem.Spec PyProof.Rows
theorem pP:∀ {vs:List Value}{ns:List Int},IntsAre vs ns->Vals (ns.map V.int) vs
 |_,_,.nil=>.nil
 |_,_,.cons n t h=>.cons ⟨t,rfl⟩ (pP h)
noncomputable def Jh (H:Hp):Prop:=∀ b,H b=none\/∃ o xs,H b=some (.frz o (.lst xs))
variable {a:Addr}
theorem EH {P:Program}{w:World}{K:PySem.W.Frag}{mg mb:Str->Option Value}{CX:CXT}{k:Nat}{fa:Addr}{fd:FuncData}{x:Str}{sp:Sp}{s₁:Shared}{vs:List Value}{ns:List Int}
  (KX:K.In s₁.heap) (hns:s₁.heap.Ns mainGlobals mg) (hb:s₁.heap.Ns builtinsNs mb) (hbb:∀ x:Str,x≠ "__name__" ->mb x=bootBuiltins x) (Pe:s₁.heap.NoLimit) (hg:s₁.gens = #[])
  (ha:s₁.heap.get? a=some {cls:=.type "list",data:=.seq vs.toArray}) (hi:IntsAre vs ns) (hl:ns.length<=sizeLine) (hr:m6 k callerA)
  (F:∀ base:Heap,K.In base->base.Ns mainGlobals mg->fV P w K mg base CX k fa fd [x] sp) (KL:∀ (s:Shared) (u:Value),BindsTo s fd ⟨[u],[]⟩ [(x,u)])
  (hsp:∀ H:Hp,Jh H->SqL K H a (ns.map V.int)->sp [.ref a] H (λv _=>v = .bl true) λ_ _ _=>False)
  (hCX:∀ H e s',CX [] H s₁ (λ_ _ _=>False) e s'->False):
  codeAny (model P w) callerA (.call (.ref fa) ⟨[.ref a],[]⟩) (λr s'=>r = .ok (.ret (.bool true))/\OldK s₁.heap s'.heap/\s'.os=s₁.os/\AllBare s'.gens) s₁:=by
 have rv:=pP hi
 have Ou:=hi.length
 have core:∀ H:Hp,Jh H->SqL K H a (ns.map V.int)->HOk P w H s₁.heap->(∀ b,H b≠none->b=a)->(H a≠none->K.lookup a=none)->
   codeAny (model P w) callerA (.call (.ref fa) ⟨[.ref a],[]⟩) (λr s'=>r = .ok (.ret (.bool true))/\OldK s₁.heap s'.heap/\s'.os=s₁.os/\AllBare s'.gens) s₁:=by
  intro H hO hS hok hA hK
  have B5:∀ {b:Addr}{o:Obj},s₁.heap.get? b=some o->H b=none->(yh s₁.heap H).get? b=some o:=λe n=>EW e n
  have noA:∀ {b:Addr}{o:Obj}{es:Array DictEntry}{ep:Nat},s₁.heap.get? b=some o->o.data = .dict es ep->H b=none:=λ{b o es ep} e d=>by
   cases q:H b with
   |none=>rfl
   |some u=>
    have e':b=a:=hA b (by rw[q];simp)
    subst e'
    rw[ha]at e;cases e
    have d':Data.seq vs.toArray _=Data.dict es ep:=d
    cases d'
  have nsK:∀ {b:Addr}{m:Str->Option Value},s₁.heap.Ns b m->(yh s₁.heap H).Ns b m:=λ{b m} ⟨o,es,ep,e,d,r⟩=>⟨o,es,ep,B5 e (noA e d),d,r⟩
  have hKb:K.In (yh s₁.heap H):=λb o e=>B5 (KX b o e) (by
   cases q:H b with
   |none=>rfl
   |some u=>
    have e':b=a:=hA b (by rw[q];simp)
    subst e'
    rw[hK (by rw[q];simp)]at e;cases e)
  have hM:Mod K mg (yh s₁.heap H):=⟨hKb,nsK hns,⟨mb,nsK hb,hbb⟩,let ⟨mc,h1,h2⟩:=Pe;⟨mc,nsK h1,h2⟩⟩
  have e0:GS P w K mg (yh s₁.heap H) callerA [] s₁ H:=⟨rfl,hM,λb o e=>Gf e,Nat.le_of_eq (CT _ _),trivial,λb hb=>absurd (show b∈([]:List Addr) from hb) (by simp),hok,.of_eq hg⟩
  refine codeAny_mono ((F _ hKb (nsK hns)).run callerA [] s₁ H ⟨[.ref a],[]⟩ [.ref a] [.ref a] _ _ hr e0 (KL s₁ (.ref a)) (.cons rfl .nil) (hsp H hO hS)) λr s' h=>?_
  cases r with
  |error e=>exact(hCX H e s' h).elim
  |ok fl=>
   cases fl with
   |next=>exact False.elim h
   |brk=>exact False.elim h
   |cont=>exact False.elim h
   |ret u=>
    obtain⟨v,H',os,bare,un,Pa,r',q⟩:=h
    have q':v = .bl true:=q
    subst q'
    obtain rfl:u=Value.bool true:=r'
    refine⟨rfl,OldK.of_keep λb o e=>?_,os,bare⟩
    cases q:H b with
    |none=>exact un.keep b o e q (by intro z;exact absurd (show b∈([]:List Addr) from z) (by simp)) (by simp)
    |some u=>
     rcases hO b with z |⟨ob,xs,z⟩
     ·rw[q]at z;cases z
     ·have z2:=un.oP b ob _ z
      obtain⟨e1,_⟩:=hok b _ z
      obtain⟨e2,_⟩:=Pa b _ z2
      rw[e]at e1;cases e1
      exact e2
 cases hk:K.lookup a with
 |some o=>
  have e:=KX a o hk
  rw[ha]at e
  cases e
  refine core (λ_=>none) (λ_=>.inl rfl) (.inr ⟨_,vs.toArray,_,hk,rfl,rfl,rfl,by rw[aK,Ou];exact hl,by simpa using rv⟩) (λb u z=>by have z':(none:Option HO)=some u:=z;cases z') (λb z=>absurd rfl z) λz=>absurd rfl z
 |none=>
  refine core (λb=>if b=a then some (.frz {cls:=.type "list",data:=.seq vs.toArray} (.lst (ns.map V.int)))else none) (λb=>?_) (.inl (.inr ⟨{cls:=.type "list",data:=.seq vs.toArray},aQ rfl⟩)) (λb u z=>?_) (λb z=>?_) λ_=>hk
  ·by_cases hb:b=a
   ·exact .inr ⟨_,_,aQ hb⟩
   ·exact .inl (aG hb)
  ·by_cases hb:b=a
   ·have z':=(aQ hb).symm.trans z
    cases z'
    subst hb
    exact⟨ha,by rw[aa];exact hl,vs,_,rv,ha⟩
   ·have z':=(aG hb).symm.trans z
    cases z'
  ·by_cases hb:b=a
   ·exact hb
   ·exact absurd (aG hb) z
noncomputable abbrev KOf {K:PySem.W.Frag}{h:Heap}(_:K.In h):PySem.W.Frag:=K
theorem FL {l:PySem.W.OpenLaw}{n k:Nat}{q:Program}{loose:List Str}{XP:(Str->Option Value)->Heap->Prop}{YP:World->Heap->Prop}{d:DefRec}{K:Params->PySem.W.Frag}{CX:World->CXT}{sp:World->Sp}{x:Str}
  (hn:l.most=some n) (hn2:n<=sizeLine) (hdf:d.params.defaults = []) (hr:m6 k callerA)
  (hY:∀ (w:World) (h:Heap),YP w h->(K w.params).In h)
  (F:∀ (w:World) (mg:Str->Option Value) (fa:Addr) (h:Heap),(K w.params).In h->h.Ns mainGlobals mg->mg d.name=some (.ref fa)->
   ∃ fd:FuncData,(∀ (s:Shared) (u:Value),BindsTo s fd ⟨[u],[]⟩ [(x,u)])/\
    ∀ base:Heap,(K w.params).In base->base.Ns mainGlobals mg->fV l.prog w (K w.params) mg base (CX w) k fa fd [x] (sp w))
  (hsp:∀ (w:World) (H:Hp) (a:Addr) (ns:List Int),ns.length<=n->Jh H->SqL (K w.params) H a (ns.map V.int)->sp w [.ref a] H (λv _=>v = .bl true) λ_ _ _=>False)
  (hCX:∀ (w:World) (H:Hp) (s:Shared) (e:Value) (s':Shared),CX w [] H s (λ_ _ _=>False) e s'->False):
  PySem.W.WalkO q loose XP YP l.row.toRowW d [] (λf vs=>PySem.call f vs):=by
 refine Att.zV hn hdf λw s₀ s₁ mg mb fa o pm cd doc a vs ns G Y ho hd hcd hmg IL hints hlen hg=>?_
 have KX:=hY w _ Y
 obtain⟨fd,hb,hF⟩:=F w mg fa _ KX G.T.g hmg
 exact EH KX G.T.g G.T.b G.T.builtins G.T.nolimit hg IL hints (bw hlen hn2) hr hF hb (λH hO hS=>hsp w H a ns hlen hO hS) λH e s'=>hCX w H s₁ e s'
noncomputable def nj (s:Stmt):Arguments:=match s with
 |.FunctionDef _ a _ _ _ _ _ _ _ _=>a
 |_=>{posonlyargs:=[],args:=[],vararg:=none,kwonlyargs:=[],kw_defaults:=[],kwarg:=none,defaults:=[]}
noncomputable def lA (s:Stmt):List Stmt:=match s with
 |.FunctionDef _ _ b _ _ _ _ _ _ _=>b
 |_=>[]
noncomputable def fM (s:Stmt):Scope:=match s with
 |.FunctionDef _ _ _ _ _ _ sc _ _ _=>sc
 |_=>{kind:=.function,names:=[],isGenerator:=false,isCoroutine:=false}
noncomputable abbrev CX0:CXT:=λ_ _ _ _ _ _=>False
noncomputable abbrev E0:XK:=λ_ _ _=>False
theorem gv {X:Cx} :Passes CX0 X E0:=λ_ _ _ _ _ _ _ h=>h.elim
structure Fun (K:PySem.W.Frag)(x qual:Str)(st:Stmt)(f:Addr)(fd:FuncData):Prop where
 ex:∃ (oc:Value) (od:Option Addr) (kV doc pm:Value) (an:Option Addr) (cdv ct:Value) (osl:Array (Option Value)),
  fd=PySem.W.fnOf x qual (nj st) (lA st) (fM st) .none kV doc pm an cdv ct/\K.lookup f=some ⟨oc,od,.func fd,osl⟩/\PySem.W.codeIn K cdv qual=true
 kp:PySem.W.keepIn K (.ref f)=true
section
variable {P:Program}{w:World}{K:PySem.W.Frag}{mg:Str->Option Value}{base:Heap}
theorem Fun.ok {x qual:Str}{st:Stmt}{f:Addr}{fd:FuncData}{N ps:List Str}{k:Nat}{sp:Sp}(F:Fun K x qual st f fd)(S:gf N ps (fM st))(len:∀ vs H Q E,sp vs H Q E->vs.length=ps.length)
  (zB:∀ (cdv:Value) (A:Around) (outer:List Env) (s:Shared) (H:Hp) (vs:List V) (Q:VK) (E:XK),m6 k (A.deeper (envOfC qual (fM st) s.heap.objs.size f cdv))->sp vs H Q E->
   ∃ t,PSs (yo CX0 P w K mg base N qual (fM st) f cdv A outer s H E).nox (lA st) t/\t {nx:=λ_ H'=>Q .non H',rt:=Q} (start N vs) H):fV P w K mg base CX0 (k+1) f fd ps sp:=by
 obtain⟨oc,od,kV,doc,pm,an,cdv,ct,osl,rfl,lk,hcd⟩:=F.ex
 refine Hh lk hcd S len λA outer s H vs Q E hr hsp=>?_
 obtain⟨t,h,q⟩:=zB cdv A outer s H vs Q E hr hsp
 exact⟨t,h.nox,q⟩
theorem Fun.binds {x qual:Str}{st:Stmt}{f:Addr}{fd:FuncData}{ps:List Str}(F:Fun K x qual st f fd)
  (h:∀ (kV doc pm:Value) (an:Option Addr) (cdv ct:Value) (us:List Value),us.length=ps.length->bindArgs (PySem.W.fnOf x qual (nj st) (lA st) (fM st) .none kV doc pm an cdv ct) ⟨us,[]⟩=pure (ps.zip us)):Binds K fd ps []:=by
 obtain⟨oc,od,kV,doc,pm,an,cdv,ct,osl,rfl,lk,hcd⟩:=F.ex
 exact .all (h kV doc pm an cdv ct)
theorem E5 {x qual:Str}{st:Stmt}{f:Addr}{oc:Value}{od an:Option Addr}{osl:Array (Option Value)}{kV doc pm cdv ct:Value}(l:K.lookup f=some ⟨oc,od,.func (PySem.W.fnOf x qual (nj st) (lA st) (fM st) .none kV doc pm an cdv ct),osl⟩)
  (c:PySem.W.codeIn K cdv qual=true) (k:PySem.W.keepIn K (.ref f)=true):Fun K x qual st f (PySem.W.fnOf x qual (nj st) (lA st) (fM st) .none kV doc pm an cdv ct):=⟨⟨oc,od,kV,doc,pm,an,cdv,ct,osl,rfl,l,c⟩,k⟩
end
theorem jE {A:Around}{k:Nat}(hr:m6 k A):A.units+1<cLine:=bL (Nat.add_le_add_left (by decide:1<=64) _) hr.units
section
variable {X:Cx}
theorem pv (i:Nat){x:Str}{pos:Pos}(hN:X.N[i]? = some x:=by rfl)(hv:Vis X.env.scope x:=by first |exact Or.inl rfl |exact Or.inr (Or.inl rfl)|exact Or.inr (Or.inr rfl))(hd:(x==("__debug__" :Str))=false:=by decide)
  (hcd:(x==("__classdict__" :Str))=false:=by decide):PE X (.Name x pos) (FQ i):=HW hN hv hd hcd
end
theorem jO {A B:Prop}(h:B):if false=true then A else B:=by
 rw[aG aB]
 exact h
theorem nC {A B:Prop}(h:A):if true=true then A else B:=by
 rw[aQ rfl]
 exact h
theorem ip {c A B:Prop} [Decidable c] (h1:c->A)(h2:¬c->B):if c then A else B:=by
 by_cases h:c
 ·rw[aQ h]
  exact h1 h
 ·rw[aG h]
  exact h2 h
noncomputable def fL (H H':Hp):Prop:=∀ b o,H b=some o->H' b=some o
theorem fL.refl (H:Hp):fL H H:=λ_ _ h=>h
variable {H:Hp}
theorem fL.trans {H1 H2:Hp}(a:fL H H1)(b:fL H1 H2):fL H H2:=λc o h=>b c o (a c o h)
theorem fL.free {H':Hp}(e:fL H H'){l:Addr}(h:H' l=Option.none):H l=Option.none:=by
 cases q:H l with
 |none=>rfl
 |some o=>
  rw[e l o q]at h
  cases h
theorem fL.seq {K:PySem.W.Frag}{H':Hp}{xs:List V}(e:fL H H')(h:SqL K H a xs):SqL K H' a xs:=by
 rcases h with(h |⟨o,h⟩)|h
 ·exact .inl (.inl (e _ _ h))
 ·exact .inl (.inr ⟨o,e _ _ h⟩)
 ·exact .inr h
variable {u:Value}
section
variable {κ:Type} [DecidableEq κ]
noncomputable def jM (kvs:List (κ×V))(k:κ):Option V:=(kvs.find? λkv=>decide (kv.1=k)).map (·.2)
noncomputable def putK (kvs:List (κ×V))(k:κ)(v:V):List (κ×V):=
 if(kvs.any λkv=>decide (kv.1=k))=true then kvs.map (λkv=>if kv.1=k then(kv.1,v)else kv)else kvs ++ [(k,v)]
theorem tX {p:κ×V}{r:List (κ×V)}{k:κ}(e:p.1=k):jM (p::r) k=some p.2:=by simp[jM,cq,e]
theorem tY {p:κ×V}{r:List (κ×V)}{k:κ}(e:¬p.1=k):jM (p::r) k=jM r k:=by simp[jM,cq,e]
theorem qJ (k:κ):∀ kvs:List (κ×V),(kvs.any λkv=>decide (kv.1=k))=(jM kvs k).isSome
 |[]=>rfl
 |p::r=>by
  rw[List.any_cons]
  by_cases e:p.1=k
  ·simp only[tX e,bB e,Bool.true_or,Option.isSome_some]
  ·rw[tY e,aW e,Bool.false_or];exact qJ k r
theorem o9 (kvs:List (κ×V))(k:κ)(v:V):(putK kvs k v).length<=kvs.length+1:=by
 unfold putK
 split
 ·rw[aa];omega
 ·rw[ak,aO,eQ];omega
theorem oY {kvs:List (κ×V)}{k:κ}(v:V)(h:jM kvs k=none):putK kvs k v=kvs ++ [(k,v)]:=by
 unfold putK
 rw[qJ,h]
 exact aG (by decide)
theorem rS.nX {o:Option V}{u:Option Value}(r:rS o u):o.isSome=u.isSome:=by
 cases o with
 |none=>cases u with
  |none=>rfl
  |some _=>exact(show False from r).elim
 |some _=>cases u with
  |none=>exact(show False from r).elim
  |some _=>rfl
theorem rS.getD {o:Option V}{u:Option Value}{d:V}{d':Value}(r:rS o u)(rd:RelV d d'):RelV (o.getD d) (u.getD d'):=by
 cases o with
 |none=>cases u with
  |none=>exact rd
  |some _=>exact(show False from r).elim
 |some _=>cases u with
  |none=>exact(show False from r).elim
  |some _=>exact r
theorem KV.val {kvs:List (κ×V)}{vs:List (κ×Value)}(r:KV kvs vs)(k:κ):rS (jM kvs k) (valueAt vs k):=by
 unfold KV at r
 induction r with
 |nil=>exact True.intro
 |@cons p q ps qs h t ih=>
  obtain⟨h1,h2⟩:=h
  by_cases e:p.1=k
  ·have e':q.1=k:=h1.symm.trans e
   have b:valueAt (q::qs) k=some q.2:=by simp[valueAt,cq,e']
   rw[tX e,b];exact h2
  ·have e':¬q.1=k:=λz=>e (h1.trans z)
   have b:valueAt (q::qs) k=valueAt qs k:=by simp[valueAt,cq,e']
   rw[tY e,b];exact ih
theorem KV.any {kvs:List (κ×V)}{vs:List (κ×Value)}(r:KV kvs vs)(k:κ):(kvs.any λkv=>decide (kv.1=k))=vs.any λkv=>decide (kv.1=k):=by
 unfold KV at r
 induction r with
 |nil=>rfl
 |cons h t ih=>rw[List.any_cons,List.any_cons,ih,h.1]
theorem KV.DT {kvs:List (κ×V)}{vs:List (κ×Value)}(r:KV kvs vs)(k:κ){y:V}(ry:RelV y u):
  KV (kvs.map λkv=>if kv.1=k then(kv.1,y)else kv) (vs.map λkv=>if kv.1=k then(kv.1,u)else kv):=by
 unfold KV at r ⊢
 induction r with
 |nil=>exact .nil
 |@cons p q ps qs h t ih=>
  rw[aZ,aZ]
  refine .cons ?_ ih
  obtain⟨h1,h2⟩:=h
  by_cases e:p.1=k
  ·rw[aQ e,aQ (h1.symm.trans e)];exact⟨h1,ry⟩
  ·rw[aG e,aG (λz=>e (h1.trans z))];exact⟨h1,h2⟩
theorem KV.put {kvs:List (κ×V)}{vs:List (κ×Value)}(r:KV kvs vs)(k:κ){y:V}(ry:RelV y u):KV (putK kvs k y) (stored vs k u):=by
 unfold putK stored
 rw[r.any k]
 by_cases e:(vs.any λkv=>decide (kv.1=k))=true
 ·rw[aQ e,aQ e];exact r.DT k ry
 ·rw[aG e,aG e];exact Paired.snoc r ⟨rfl,ry⟩
theorem KV.length {kvs:List (κ×V)}{vs:List (κ×Value)}(r:KV kvs vs):kvs.length=vs.length:=bX r
end
theorem oM {P:Program}{w:World}{k:Key}(r:RelV (kV k) u):(gu P w).is k u=true:=by
 cases k with
 |inl i=>obtain⟨t,e⟩:=(show ∃ t,u=Value.int i t from r);subst e;exact zo P w i t
 |inr x=>obtain⟨t,e⟩:=(show ∃ t,u=Value.str x t from r);subst e;exact zm P w x t
theorem su {P:Program}{w:World} :∀ {ks:List Key}{us:List Value},Vals (ks.map kV) us->ItemsAre (gu P w) ks us
 |[],_,r=>by rw[List.map_nil]at r;cases r;exact .nil
 |k::ks,_,r=>by
  rw[aZ]at r
  cases r with
  |cons h t=>exact .cons (oM h) (su t)
noncomputable abbrev KT (H:Hp):List (List Key×V)->List (List Key×Addr×Value)->Prop:=Paired λp q=>p.1=q.1/\H q.2.1=some (.tup (p.1.map kV))/\RelV p.2 q.2.2
variable {kvs:List (List Key×V)}{xs:List (List Key×Addr×Value)}
theorem KT.val (r:KT H kvs xs)(k:List Key):rS (jM kvs k) ((atKey xs k).map (·.2)):=by
 induction r with
 |nil=>exact True.intro
 |@cons p q ps qs h t ih=>
  obtain⟨h1,_,h2⟩:=h
  by_cases e:p.1=k
  ·have e':q.1=k:=h1.symm.trans e
   have b:atKey (q::qs) k=some q.2:=by simp[atKey,cq,e']
   rw[tX e,b];exact h2
  ·have e':¬q.1=k:=λz=>e (h1.trans z)
   have b:atKey (q::qs) k=atKey qs k:=by simp[atKey,cq,e']
   rw[tY e,b];exact ih
theorem KT.DT (r:KT H kvs xs)(k:List Key){y:V}(ry:RelV y u):
  KT H (kvs.map λkv=>if kv.1=k then(kv.1,y)else kv) (xs.map (putAt k u)):=by
 induction r with
 |nil=>exact .nil
 |@cons p q ps qs h t ih=>
  rw[aZ,aZ]
  refine .cons ?_ ih
  obtain⟨h1,h2,h3⟩:=h
  unfold putAt
  by_cases e:p.1=k
  ·rw[aQ e,aQ (h1.symm.trans e)];exact⟨h1,h2,ry⟩
  ·rw[aG e,aG (λz=>e (h1.trans z))];exact⟨h1,h2,h3⟩
theorem KT.put (r:KT H kvs xs)(k:List Key){b:Addr}{y:V}(hb:H b=some (.tup (k.map kV)))(ry:RelV y u):
  KT H (putK kvs k y) (storedH xs k b u):=by
 have e:(kvs.any λkv=>decide (kv.1=k))=(atKey xs k).isSome:=by
  rw[qJ,(r.val k).nX,fq]
 unfold putK storedH
 rw[e]
 by_cases q:(atKey xs k).isSome=true
 ·rw[aQ q,aQ q];exact r.DT k ry
 ·rw[aG q,aG q];exact Paired.snoc r ⟨rfl,hb,ry⟩
theorem KT.keeps {H':Hp}(r:KT H kvs xs)(ht:∀ b ys,H b=some (.tup ys)->H' b=some (.tup ys)):KT H' kvs xs:=
 Paired.Im r λ_ _ z=>⟨z.1,ht _ _ z.2.1,z.2.2⟩
section
variable {P:Program}{w:World}{H:Hp}{h:Heap}{a:Addr}
theorem GZ {u:HO}(ok:HOk P w H h)(e:Rd H a u):iR P w H h a u:=e.ok ok
theorem xh {kvs:List (Key×V)}(ok:HOk P w H h)(e:Rd H a (.dK kvs)):kvs.length<=sizeLine/\(a==sysModules)=false/\∃ vs,KV kvs vs/\h.DictOf (gu P w) a vs:=
 show iR P w H h a (.dK kvs) from GZ ok e
theorem K0 {kvs:List (Key×V)}(ok:HOk P w H h)(e:H a=some (.dK kvs)):kvs.length<=sizeLine/\(a==sysModules)=false/\∃ vs,KV kvs vs/\h.DictOf (gu P w) a vs:=xh ok (.inl e)
theorem qA {ks:List Key}(ok:HOk P w H h)(e:H a=some (.tup (ks.map kV))):(tupleKind (gu P w)).is h ks a:=by
 obtain⟨_,its,r,o,h1,h2,n,h3⟩:=(show iR P w H h a (.tup (ks.map kV)) from ok a _ e)
 exact⟨o,its.toArray,n,h1,h2,h3,by simpa using su r⟩
theorem xg (ok:HOk P w H h)(e:Rd H a (.dT kvs)):kvs.length<=sizeLine/\(a==sysModules)=false/\
  ∃ xs,KT H kvs xs/\h.DictOfH (tupleKind (gu P w)) a xs:=by
 obtain⟨z,y,xs,r,o,es,ep,h1,h2,h3,h4,h5⟩:=(show iR P w H h a (.dT kvs) from GZ ok e)
 refine⟨z,y,xs,r,o,es,ep,h1,h2,h3,h4,λx hx=>?_,h5⟩
 have all:∀ {l:List (List Key×V)}{m:List (List Key×Addr×Value)},KT H l m->∀ x∈m,(tupleKind (gu P w)).is h x.1 x.2.1:=by
  intro l m q
  induction q with
  |nil=>intro x hx;exact nomatch hx
  |@cons p q ps qs hq t ih=>
   intro x hx
   rcases aE.mp hx with e |hx
   ·subst e
    exact qA ok (by rw[<-hq.1];exact hq.2.1)
   ·exact ih x hx
 exact all r x hx
theorem Fb (ok:HOk P w H h)(e:H a=some (.dT kvs)):kvs.length<=sizeLine/\(a==sysModules)=false/\
  ∃ xs,KT H kvs xs/\h.DictOfH (tupleKind (gu P w)) a xs:=xg ok (.inl e)
end
noncomputable def oK (H:Hp)(a:Addr)(y:V)(r:Option V):Prop:=
 (∃ kvs k,Rd H a (.dK kvs)/\y=kV k/\r=jM kvs k)\/∃ kvs k b,Rd H a (.dT kvs)/\y = .ref b/\H b=some (.tup (k.map kV))/\r=jM kvs k
noncomputable def A8 (H:Hp)(a:Addr)(y v:V)(H':Hp):Prop:=
 (∃ kvs k,H a=some (.dK kvs)/\y=kV k/\kvs.length<sizeLine/\H'=upd H a (.dK (putK kvs k v)))\/
 ∃ kvs k b,H a=some (.dT kvs)/\y = .ref b/\H b=some (.tup (k.map kV))/\kvs.length<sizeLine/\H'=upd H a (.dT (putK kvs k v))
theorem oK.t {b:Addr}{k:List Key}(e:H a=some (.dT kvs))(eb:H b=some (.tup (k.map kV))):oK H a (.ref b) (jM kvs k):=.inr ⟨kvs,k,b,.inl e,rfl,eb,rfl⟩
theorem A8.t {b:Addr}{k:List Key}{v:V}(e:H a=some (.dT kvs))(eb:H b=some (.tup (k.map kV)))(hl:kvs.length<sizeLine):
  A8 H a (.ref b) v (upd H a (.dT (putK kvs k v))):=.inr ⟨kvs,k,b,e,rfl,eb,hl,rfl⟩
variable {Q:Value->Shared->Prop}
section
variable {X:Cx}{pins:List (Addr×Obj)}{σ:St}{H:Hp}{s:Shared}{a:Addr}{y v:V}{u r:Value}{o:Option V}{A:Around}{E:Value->Shared->Prop}
theorem Inv.big (I:Inv X pins σ H s):sysModules<s.heap.objs.size:=by
 have h:mainGlobals<s.heap.objs.size:=(I.mod.glob.keeps I.bk).lt
 exact Nat.lt_trans (by decide) h
theorem Dc (hu:A.units+1<cLine)(I:Inv X pins σ H s)(g:oK H a y (some v))(ry:RelV y u)(h:∀ w' s',Inv X pins σ H s'->RelV v w'->Q w' s'):
  wpAny (model X.prog X.w) A (getItem (.ref a) u) Q E s:=by
 rcases g with⟨kvs,k,e,ey,l⟩|⟨kvs,k,b,e,ey,eb,l⟩
 ·subst ey
  obtain⟨z,hd,vs,rel,dd⟩:=xh I.hok e
  obtain⟨w',hw,rw'⟩:=rS.some_of (v:=v) (o:=valueAt vs k) (by rw[l];exact rel.val k)
  exact wpAny_getItem_of (oM ry) dd.mapOf hw (h w' _ (I.tok _) rw')
 ·subst ey
  cases(show u=Value.ref b from ry)
  obtain⟨z,hd,xs,rel,dd⟩:=xg I.hok e
  obtain⟨w',hw,rw'⟩:=rS.some_of (v:=v) (o:=(atKey xs k).map (·.2)) (by rw[l];exact rel.val k)
  obtain⟨p,hp,hp2⟩:=Option.map_eq_some_iff.mp hw
  refine wpAny_getItem_heap (eu hu) (qA I.hok eb) dd hp ?_
  rw[hp2]
  exact h w' _ (I.tok _) rw'
theorem GI (hu:A.units+1<cLine)(I:Inv X pins σ H s)(g:oK H a y o)(ry:RelV y u)(h:∀ s',Inv X pins σ H s'->Q (.bool (!o.isSome)) s'):
  wpAny (model X.prog X.w) A (compareOp .NotIn u (.ref a)) Q E s:=by
 rcases g with⟨kvs,k,e,ey,l⟩|⟨kvs,k,b,e,ey,eb,l⟩
 ·subst ey
  obtain⟨z,hd,vs,rel,dd⟩:=xh I.hok e
  refine wpAny_notIn_of (oM ry) hd dd.mapOf ?_
  rw[<-(rel.val k).nX,<-l]
  exact h _ (I.tok _)
 ·subst ey
  cases(show u=Value.ref b from ry)
  obtain⟨z,hd,xs,rel,dd⟩:=xg I.hok e
  refine wpAny_notIn_heap (eu hu) (qA I.hok eb) hd dd ?_
  have q:=(rel.val k).nX
  rw[fq]at q
  rw[<-q,<-l]
  exact h _ (I.tok _)
theorem rG {h':Heap}{t':Nat}{ob:HO}(I:Inv X pins σ H s)(mu:Mut (H a))(hs:Heap.SameBut a s.heap h')(he:∃ q,h'.get? a=some q)(new:iR X.prog X.w (upd H a ob) h' a ob):
  Inv X pins σ (upd H a ob) {s with heap:=h',toks:=t'} :=
 I.write (x:=a) (e:=a) mu (.inl rfl) (λb q hb z=>(hs.2 b hb).trans z) he new
theorem IY {P:Program}{w:World}{H':Hp}{h':Heap}{kvs:List (Key×V)}{vs:List (Key×Value)}(z:kvs.length<=sizeLine)(hd:(a==sysModules)=false)(rel:KV kvs vs)(dd:h'.DictOf (gu P w) a vs):
  iR P w H' h' a (.dK kvs):=⟨z,hd,vs,rel,dd⟩
theorem C9 {H':Hp}{Q:Unit->Shared->Prop}(hu:A.units+1<cLine)(I:Inv X pins σ H s)(g:A8 H a y v H')(ry:RelV y u)(rv:RelV v r)(h:∀ s',Inv X pins σ H' s'->Q () s'):
  wpAny (model X.prog X.w) A (setItem (.ref a) u r) Q E s:=by
 rcases g with⟨kvs,k,e,ey,l,eH⟩|⟨kvs,k,b,e,ey,eb,l,eH⟩
 ·subst ey eH
  obtain⟨z,hd,vs,rel,dd⟩:=K0 I.hok e
  have hz:vs.length<=sizeLine:=by rw[<-rel.length];exact z
  have hl:(putK kvs k v).length<=sizeLine:=by have:=o9 kvs k v;omega
  refine wpAny_setItem_pairs (hsz:=hz) (oM ry) dd λh' dd' hs=>h _ ?_
  have he:∃ q,h'.get? a=some q:=let ⟨q,_,_,hq,_⟩:=dd';⟨q,hq⟩
  exact rG I (by rw[e];exact True.intro) hs he (IY hl hd (rel.put k rv) dd')
 ·subst ey eH
  cases(show u=Value.ref b from ry)
  obtain⟨z,hd,xs,rel,dd⟩:=Fb I.hok e
  have hz:xs.length<=sizeLine:=by rw[<-bX rel];exact z
  have hl:(putK kvs k v).length<=sizeLine:=by have:=o9 kvs k v;omega
  refine wpAny_setItem_heap (hsz:=hz) (eu hu) (qA I.hok eb) dd λh' dd' hs=>h _ ?_
  obtain⟨q,es,ep,hq,h2,h3,h4,_,h5⟩:=dd'
  refine rG I (by rw[e];exact True.intro) hs ⟨q,hq⟩ ⟨hl,hd,_,(rel.put k eb rv).keeps λc ys ec=>?_,q,es,ep,hq,h2,h3,h4,h5⟩
  rw[fK (gy ec e (λz=>nomatch z))]
  exact ec
end
noncomputable def FA (i:Expr):Prop:=∀ ov iv,subscripted i false ov iv=operate [ov,iv] (getItem ov iv)
theorem xu {prog:Program}{w:World}{A:Around}{E:Value->Shared->Prop}{s:Shared}{env:Env}{value slice:Expr}{pos:Pos}{T id:String}
  (hl:typeLookup (.type T) "__getitem__" = pure (some (.builtin id))) (hs:FA slice)
  (h:wpAny (model prog w) A (eval value env) (λo s₁=>wpAny (model prog w) A (eval slice env) (λi s₂=>s₂.TypeIs o T/\wpAny (model prog w) A (getItem o i) Q E s₂) E s₁) E s):
  wpAny (model prog w) A (eval (.Subscript value slice pos) env) Q E s:=by
 refine Subscript_ (bf h (λo s₁ h₁=>bf h₁ (λi s₂ h₂=>?_) λ_ _ x=>x) λ_ _ x=>x)
 obtain⟨hT,h₂⟩:=h₂
 unfold subscriptTail
 refine ae ?_
 rw[getitemInPython_of_ne hT.not_modules]
 refine ae (eg hT hl ?_)
 have fin:wpAny (model prog w) A (subscripted slice false o i) (λr s₃=>wpAny (model prog w) A (letTemporaryGo value o r >>= λ_=>pure r) Q E s₃) E s₂:=by
  rw[hs o i]
  exact wpAny_operating (bf h₂ (λr s₃ h₃=>ae (wpAny_letTemporaryGo (aj h₃))) λ_ _ x=>x)
 first
  |exact aj (ae fin)
  |exact ae (aj (ae fin))
  |exact ae fin
theorem zI {X:Cx}{pins:List (Addr×Obj)}{σ:St}{s:Shared}{y:V}{o:Option V}(I:Inv X pins σ H s)(g:oK H a y o):s.TypeIs (.ref a) "dict" :=by
 rcases g with⟨kvs,k,e,_,_⟩|⟨kvs,k,b,e,_,_,_⟩
 ·obtain⟨_,_,vs,_,dd⟩:=xh I.hok e
  exact dd.typeIs
 ·obtain⟨_,_,xs,_,dd⟩:=xg I.hok e
  exact dd.typeIs
noncomputable def JG (td ty:TE):TE:=λσ H Q=>td σ H λx H1=>ty σ H1 λy H2=>∃ a v,x = .ref a/\oK H2 a y (some v)/\Q v H2
noncomputable def FV (ty td:TE):TE:=λσ H Q=>ty σ H λy H1=>td σ H1 λx H2=>∃ a o,x = .ref a/\oK H2 a y o/\Q (.bl (!o.isSome)) H2
noncomputable def JM (td ty tv:TE):TS:=λD σ H=>tv σ H λv H1=>td σ H1 λx H2=>ty σ H2 λy H3=>∃ a H4,x = .ref a/\A8 H3 a y v H4/\D.nx σ H4
section
variable {X:Cx}{o i e value:Expr}{pos pos' Ju:Pos}{td ty tv:TE}
theorem ly (hu:X.A.units+1<cLine)(ho:PE X o td)(hi:PE X i ty)(hs:FA i):PE X (.Subscript o i pos) (JG td ty):=by
 intro pins s σ H Q I h
 refine xu fj.lookup hs (thn (ho pins s σ H _ I h) λu s1 ⟨x,H1,I1,rx,q1⟩=>thn (hi pins s1 σ H1 _ I1 q1) λiv s2 ⟨y,H2,I2,ry,a,v,ex,g,q2⟩=>?_)
 subst ex
 obtain rfl:u=Value.ref a:=rx
 exact⟨zI I2 g,Dc hu I2 g ry λw' s3 I3 rw'=>⟨v,H2,I3,rw',q2⟩⟩
theorem nU (hu:X.A.units+1<cLine)(hi:PE X i ty)(ho:PE X o td):PC X .NotIn i o (FV ty td):=by
 intro pins s σ H Q I h
 refine thn (hi pins s σ H _ I h) λiv s1 ⟨y,H1,I1,ry,q1⟩=>thn (ho pins s1 σ H1 _ I1 q1) λu s2 ⟨x,H2,I2,rx,a,ov,ex,g,q2⟩=>?_
 subst ex
 obtain rfl:u=Value.ref a:=rx
 exact GI hu I2 g ry λs3 I3=>⟨.bl (!ov.isSome),H2,I3,rfl,q2⟩
theorem xM (hu:X.A.units+1<cLine)(ho:PE X o td)(hi:PE X i ty)(hv:PE X value tv)(hs:swapsWith value (some (.Subscript o i pos')) pos.line X.env=pure false):
  PS X (.Assign [.Subscript o i pos'] value pos) (JM td ty tv):=by
 intro pins s σ H D I h
 refine wpAny_Assign_Subscript (thn (hv pins s σ H _ I h) λr s1 ⟨v,H1,I1,rv,q1⟩=>thn (ho pins s1 σ H1 _ I1 q1) λu s2 ⟨x,H2,I2,rx,q2⟩=>thn (hi pins s2 σ H2 _ I2 q2) λiv s3 ⟨y,H3,I3,ry,a,H4,ex,g,q3⟩=>?_) hs
 subst ex
 obtain rfl:u=Value.ref a:=rx
 exact C9 hu I3 g ry rv λs4 I4=>⟨σ,H4,I4,q3⟩
end
theorem vt {P:Program}{w:World}(h:Heap)(hb:sysModules<h.objs.size):iR P w H (h.push {cls:=.type "dict",data:=.dict #[]}) h.objs.size (.dT []):=
 ⟨aI _,eU.mpr (bI (aL hb)),[],.nil,_,#[],0,aR _ rfl,⟨rfl,rfl,rfl⟩,rfl,rfl,cz⟩
noncomputable def HB:TE:=λ_ H Q=>∀ p,H p=none->Q (.ref p) (upd H p (.dT []))
section
variable {X:Cx}{pos:Pos}
theorem Ea:PE X (.Dict [] [] pos) HB:=λpins s σ H Q I h=>
 wpAny_Dict_empty ⟨.ref s.heap.objs.size,_,I.laid (a:=s.heap.objs.size) (o:=.dT []) (t':=s.toks) (λ_ _ q=>ax _ q) (ar _) (vt s.heap I.big),rfl,h _ (I.hok.fresh (ar _))⟩
end
noncomputable def Ah:List (TE×TE)->St->Hp->(List (V×V)->Hp->Prop)->Prop
 |[],_,H,Q=>Q [] H
 |(tk,tv)::r,σ,H,Q=>tk σ H λx H1=>tv σ H1 λy H2=>Ah r σ H2 λps H3=>Q ((x,y)::ps) H3
noncomputable abbrev VV:List (V×V)->List (Value×Value)->Prop:=Paired λp q=>RelV p.1 q.1/\RelV p.2 q.2
noncomputable def PPs (X:Cx)(pos:Pos)(keys:List (Option Expr))(values:List Expr)(trs:List (TE×TE)):Prop:=
 ∀ (pins:List (Addr×Obj)) (s:Shared) (σ:St) (H:Hp) (Q:List (V×V)->Hp->Prop),Inv X pins σ H s->Ah trs σ H Q->
  wpAny (model X.prog X.w) X.A (evalPairs (pairTrees keys values X.env pos)) (λvs s'=>∃ ps H',Inv X pins σ H' s'/\VV ps vs/\Q ps H') X.xe s
theorem F8 {X:Cx}{pos:Pos} :PPs X pos [] [] []:=λpins s σ H Q I h=>pairTrees_nil_walk ⟨[],H,I,.nil,h⟩
theorem DZ {X:Cx}{pos:Pos}{k v:Expr}{ks:List (Option Expr)}{vs:List Expr}{tk tv:TE}{trs:List (TE×TE)}(hk:PE X k tk)(hv:PE X v tv)(hr:PPs X pos ks vs trs):
  PPs X pos (some k::ks) (v::vs) ((tk,tv)::trs):=λpins s σ H Q I h=>
 pairTrees_cons_walk (thn (hk pins s σ H _ I h) λu s1 ⟨x,H1,I1,rx,q1⟩=>thn (hv pins s1 σ H1 _ I1 q1) λw2 s2 ⟨y,H2,I2,ry,q2⟩=>
  thn (hr pins s2 σ H2 _ I2 q2) λws s3 ⟨ps,H3,I3,rel,q3⟩=>⟨(x,y)::ps,H3,I3,.cons ⟨rx,ry⟩ rel,q3⟩)
structure M1 (X:Cx)(o:Expr)(m:Str)(apos:Pos)(e:Expr)(kJ:Pos):Prop where
 base:attributeBase o m X.env (eval o X.env)=eval o X.env
 few:((backTo kJ (starEach [e] X.env)).all (λx=> !x.1)&&(backToKw kJ (keywordEach [] X.env)).all (λx=>x.1.isSome)
  && decide (([e]:List Expr).length+([]:List Keyword).length+(if([]:List Keyword).isEmpty then 0 else 1)<30))=true
 line:(apos.endLine==kJ.line)=true
 trees:backTo kJ (starEach [e] X.env) = [(false,eval e X.env)]
noncomputable def IsD (H:Hp)(a:Addr):Prop:=(∃ kvs,Rd H a (.dK kvs))\/∃ kvs,Rd H a (.dT kvs)
theorem IB {X:Cx}{pins:List (Addr×Obj)}{σ:St}{s:Shared}(I:Inv X pins σ H s)(d:IsD H a):
  s.TypeIs (.ref a) "dict" /\(∀ b,Value.ref a = .ref b->∃ ob,s.heap.get? b=some ob/\ob.dict=none)/\(a==sysModules)=false:=by
 rcases d with⟨kvs,e⟩|⟨kvs,e⟩
 ·obtain⟨_,hd,vs,_,dd⟩:=xh I.hok e
  refine⟨dd.typeIs,λb q=>?_,hd⟩
  cases q
  obtain⟨ob,_,_,h1,h2,_⟩:=dd
  exact⟨ob,h1,h2.2.1⟩
 ·obtain⟨_,hd,xs,_,dd⟩:=xg I.hok e
  refine⟨dd.typeIs,λb q=>?_,hd⟩
  cases q
  obtain⟨ob,_,_,h1,h2,_⟩:=dd
  exact⟨ob,h1,h2.2.1⟩
section
variable {X:Cx}{pins:List (Addr×Obj)}{σ:St}{H:Hp}{s:Shared}{a:Addr}{y d:V}{u r:Value}{o:Option V}{A:Around}{E:Value->Shared->Prop}
theorem Ja (hu:A.units+1<cLine)(I:Inv X pins σ H s)(g:oK H a y o)(ry:RelV y u)(h:∀ w' s',Inv X pins σ H s'->RelV (o.getD .non) w'->Q w' s'):
  wpAny (model X.prog X.w) A (call (.builtin "dict.get") [.ref a,u]) Q E s:=by
 rcases g with⟨kvs,k,e,ey,l⟩|⟨kvs,k,b,e,ey,eb,l⟩
 ·subst ey
  obtain⟨z,hd,vs,rel,dd⟩:=xh I.hok e
  refine call_meetsIn PySem.F.slot_dict_get dd.typeIs PySem.F.entry_dict_get (PySem.F.args_dict_get_2 _ _) (meets_dict_get (gu X.prog X.w) a (oM ry) hd) ⟨_,dd.mapOf,h _ _ (I.tok _) ?_⟩
  rw[l]
  exact(rel.val k).getD rfl
 ·subst ey
  cases(show u=Value.ref b from ry)
  obtain⟨z,hd,xs,rel,dd⟩:=xg I.hok e
  refine call_meetsIn PySem.F.slot_dict_get dd.typeIs PySem.F.entry_dict_get (PySem.F.args_dict_get_2 _ _) (meetsH_dict_get (tupleKind (gu X.prog X.w)) a b hd) ⟨eu hu,k,xs,qA I.hok eb,dd,h _ _ (I.tok _) ?_⟩
  rw[l]
  exact(rel.val k).getD rfl
end
noncomputable def HC (td ty:TE):TE:=λσ H Q=>td σ H λx H1=>∃ a,x = .ref a/\IsD H1 a/\ty σ H1 λy H2=>∃ o,oK H2 a y o/\Q (o.getD .non) H2
section
variable {X:Cx}{o e f:Expr}{apos kJ:Pos}{td ty tx:TE}
theorem zb (hu:X.A.units+1<cLine)(ho:PE X o td)(he:PE X e ty)(m:M1 X o "get" apos e kJ):PE X (.Call (.Attribute o "get" apos) [e] [] kJ) (HC td ty):=by
 intro pins s σ H Q I h
 refine wpAny_Call_method m.base m.few m.line PySem.F.plainAttrs_dict PySem.F.slot_dict_get PySem.F.type_dict_get (thn (ho pins s σ H _ I h) λu s1 ⟨x,H1,I1,rx,a,ex,d,q1⟩=>?_)
 subst ex
 obtain rfl:u=Value.ref a:=rx
 obtain⟨t1,t2,_⟩:=IB I1 d
 refine⟨t1,t2,?_⟩
 rw[m.trees]
 refine eN rfl (Calls.evalArgs_plain (Calls.spliced_cons (thn (he pins s1 σ H1 _ I1 q1) λiv s2 ⟨y,H2,I2,ry,ov,g,q2⟩=>Calls.spliced_nil ?_)))
 exact Ja hu I2 g ry λw' s3 I3 rw'=>⟨_,H2,I3,rw',q2⟩
end
end L2
namespace TL
open PySem
theorem vp {α β:Type}{f:α->β->Sem (ForInStep β)}(P:List α->β->Prop)
  (step:∀ x l c,P (x::l) c->∃ c',f x c=pure (.yield c')/\P l c'):∀ (l:List α) (c:β),P l c->∃ c',forIn l c f=pure c'/\P [] c'
 |[],c,h=>⟨c,rfl,h⟩
 |x::l,c,h=>by
  obtain⟨c1,e,h1⟩:=step x l c h
  obtain⟨c2,e2,h2⟩:=vp P step l c1 h1
  refine⟨c2,?_,h2⟩
  rw[cJ,e,pure_bind]
  exact e2
theorem kW {scope:Scope}{env:Env}(h:∀ y∈scope.names,y.2 = .free->∃ c,env.cells.lookup y.1=some c):
  ∃ cl,closureFor scope env=pure cl/\(∀ x c,cl.lookup x=some c->env.cells.lookup x=some c)/\(∀ y∈scope.names,y.2 = .free->∃ c,cl.lookup y.1=some c):=by
 let P:List (Str×NameKind)->List (Str×Addr)->Prop:=λl c=>(∀ y∈l,y.2 = .free->∃ c,env.cells.lookup y.1=some c)/\(∀ x a,c.lookup x=some a->env.cells.lookup x=some a)/\
  (∀ y∈scope.names,y.2 = .free->y∈l\/∃ a,c.lookup y.1=some a)
 simp only[closureFor]
 obtain⟨cl,e,_,h2,h3⟩:=vp (f:=λ(x:Str×NameKind) (r:List (Str×Addr))=>if(x.2==NameKind.free)=true then cellOf env x.1 >>= λc=>pure (ForInStep.yield ((x.1,c)::r))else pure (ForInStep.yield r)) P (by
  rintro⟨n,k⟩ l c ⟨p1,p2,p3⟩
  by_cases hk:k = .free
  ·subst hk
   obtain⟨a,ha⟩:=p1 _ aC rfl
   refine⟨(n,a)::c,?_,λy hy=>p1 y (aw _ hy),λx b hb=>?_,λy hy hf=>?_⟩
   ·have ha':env.cells.lookup n=some a:=ha
    simp[cellOf,ha']
   ·rw[bJ]at hb
    by_cases hx:(x==n)=true
    ·rw[hx]at hb
     have e1:x=n:=by simpa using hx
     subst e1
     cases hb
     exact ha
    ·have hx':(x==n)=false:=by simpa using hx
     rw[hx']at hb
     exact p2 x b hb
   ·by_cases hx:(y.1==n)=true
    ·exact .inr ⟨a,by rw[bJ,hx]⟩
    ·have hx':(y.1==n)=false:=by simpa using hx
     rcases p3 y hy hf with q |⟨b,q⟩
     ·rcases aE.mp q with q |q
      ·exact absurd (by rw[q];simp) hx
      ·exact .inl q
     ·exact .inr ⟨b,by rw[bJ,hx'];exact q⟩
  ·refine⟨c,?_,λy hy=>p1 y (aw _ hy),p2,λy hy hf=>?_⟩
   ·have:(k==NameKind.free)=false:=by simpa using hk
    simp[this]
   ·rcases p3 y hy hf with q |q
    ·rcases aE.mp q with q |q
     ·subst q;exact absurd hf hk
     ·exact .inl q
    ·exact .inr q) scope.names [] ⟨h,λx a hx=>by simp at hx,λy hy _=>.inl hy⟩
 refine⟨cl,?_,h2,λy hy hf=>?_⟩
 ·refine Eq.trans ?_ (cf (λt:Sem (List (Str×Addr))=>t >>= λr=>pure r) e)
  rfl
 ·rcases h3 y hy hf with q |q
  ·cases q
  ·exact q
theorem lU {env:Env} :∀ {names:List (Str×NameKind)}{x:Str},names.lookup x=some .free->
  (names.map λ(n,k)=>if(k==NameKind.free&&env.scope.kind == .function&&env.kindOf n==some .cell)then(n,NameKind.cell)else(n,k)).lookup x=some .cell\/
  (names.map λ(n,k)=>if(k==NameKind.free&&env.scope.kind == .function&&env.kindOf n==some .cell)then(n,NameKind.cell)else(n,k)).lookup x=some .free
 |[],_,h=>by simp at h
 |(n,k)::r,x,h=>by
  have ih:=@lU env r x
  show List.lookup x ((if(k==NameKind.free&&env.scope.kind == .function&&env.kindOf n==some .cell)=true then(n,NameKind.cell)else(n,k))::_)=_\/List.lookup x ((if(k==NameKind.free&&env.scope.kind == .function&&env.kindOf n==some .cell)=true then(n,NameKind.cell)else(n,k))::_)=_
  cases hx:x==n with
  |true=>
   simp only[bJ,hx]at h
   cases h
   by_cases hc:(NameKind.free==NameKind.free&&env.scope.kind == .function&&env.kindOf n==some .cell)=true
   ·rw[aQ hc];left;simp[bJ,hx]
   ·rw[aG hc];right;simp[bJ,hx]
  |false=>
   simp only[bJ,hx]at h
   by_cases hc:(k==NameKind.free&&env.scope.kind == .function&&env.kindOf n==some .cell)=true
   ·rw[aQ hc];simp only[bJ,hx];exact ih h
   ·rw[aG hc];simp only[bJ,hx];exact ih h
theorem lI {env:Env} :∀ {names:List (Str×NameKind)}{x:Str},(∀ y∈names,y.2≠ .cell)->
  ((names.map λ(n,k)=>if(k==NameKind.free&&env.scope.kind == .function&&env.kindOf n==some .cell)then(n,NameKind.cell)else(n,k)).lookup x=some .cell\/
  (names.map λ(n,k)=>if(k==NameKind.free&&env.scope.kind == .function&&env.kindOf n==some .cell)then(n,NameKind.cell)else(n,k)).lookup x=some .free)->∃ y∈names,y.1=x/\y.2 = .free
 |[],_,_,h=>by simp at h
 |(n,k)::r,x,hn,h=>by
  have ih:=@lI env r x (λy hy=>hn y (aw _ hy))
  change List.lookup x ((if(k==NameKind.free&&env.scope.kind == .function&&env.kindOf n==some .cell)=true then(n,NameKind.cell)else(n,k))::_)=_\/List.lookup x ((if(k==NameKind.free&&env.scope.kind == .function&&env.kindOf n==some .cell)=true then(n,NameKind.cell)else(n,k))::_)=_ at h
  cases hx:x==n with
  |true=>
   have e:x=n:=by simpa using hx
   by_cases hc:(k==NameKind.free&&env.scope.kind == .function&&env.kindOf n==some .cell)=true
   ·have hk:k = .free:=by
     simp only[dF,fc]at hc
     exact hc.1.1
    exact⟨(n,k),aC,e.symm,hk⟩
   ·rw[aG hc]at h
    simp only[bJ,hx]at h
    rcases h with h |h
    ·exact absurd (bc h) (hn (n,k) aC)
    ·exact⟨(n,k),aC,e.symm,bc h⟩
  |false=>
   have h':(r.map λ(n,k)=>if(k==NameKind.free&&env.scope.kind == .function&&env.kindOf n==some .cell)then(n,NameKind.cell)else(n,k)).lookup x=some .cell\/
     (r.map λ(n,k)=>if(k==NameKind.free&&env.scope.kind == .function&&env.kindOf n==some .cell)then(n,NameKind.cell)else(n,k)).lookup x=some .free:=by
    by_cases hc:(k==NameKind.free&&env.scope.kind == .function&&env.kindOf n==some .cell)=true
    ·rw[aQ hc]at h;simpa only[bJ,hx]using h
    ·rw[aG hc]at h;simpa only[bJ,hx]using h
   obtain⟨y,hy,e⟩:=ih h'
   exact⟨y,aw _ hy,e⟩
section
variable {prog:Program}{w:World}{A:Around}{R:Result->Shared->Prop}{s:Shared}
noncomputable abbrev tJ (ifs:List Expr)(env:Env):Sem Bool:=forIn ifs true λc r=>if r=true then do let ok <-isTrue c env (eval c env);pure (ForInStep.yield ok)else pure (ForInStep.yield r)
theorem zP {elt target iter:Expr}{ifs:List Expr}{scope:Scope}{pos:Pos}{it acc:Value}{env:Env}(I:Nat->Shared->Prop)
  (turn:∀ n s,I n s->wpAny (model prog w) A (pyNext it) (λr s₁=>match r with
   |none=>R (.ok .next) s₁
   |some v=>wpAny (model prog w) A (letOwnedTupleGo target it v) (λ_ s₀=>wpAny (model prog w) A (assign target env v) (λ_ s₂=>
     wpAny (model prog w) A (tJ ifs env) (λok s₃=>
      if ok=true then wpAny (model prog w) A (eval elt env) (λx s₄=>
       wpAny (model prog w) A (call (.builtin "list.append") [acc,x]) (λ_ s₅=>∃ m,m<n/\I m s₅) (λ_ _=>False) s₄) (λ_ _=>False) s₃
      else ∃ m,m<n/\I m s₃) (λ_ _=>False) s₂) (λ_ _=>False) s₀) (λ_ _=>False) s₁) (λ_ _=>False) s)
  (n:Nat) (h:I n s):
  codeAny (model prog w) A (.compLoop (.ListComp elt [⟨target,iter,ifs,0⟩] scope pos) 0 it acc env) R s:=by
 refine codeAny_loop rfl I (λn s hI=>?_) n h
 show wpAny _ A ((compTurn (.ListComp elt [⟨target,iter,ifs,0⟩] scope pos) 0 it acc env).onRaise (λx=>do noteFrame x env;theTreesLotGoes x)) _ _ s
 refine wpAny_noted ?_
 rw[compTurn_list]
 refine ae (cU (ae (bf (turn n s hI) (λr s₁ h₁=>?_) λ_ _ h'=>h'.elim)))
 cases r with
 |none=>exact aj h₁
 |some v=>
  refine ae (bf h₁ (λ_ s₀ h₀=>?_) λ_ _ h'=>h'.elim)
  refine ae (bf h₀ (λ_ s₂ h₂=>ae (bf h₂ (λok s₃ h₃=>?_) λ_ _ h'=>h'.elim)) λ_ _ h'=>h'.elim)
  cases ok with
  |false=>exact aj ⟨rfl,h₃⟩
  |true=>
   exact ae (ae (bf h₃ (λx s₄ h₄=>ae (bf h₄ (λ_ s₅ h₅=>aj (aj ⟨rfl,h₅⟩)) λ_ _ h'=>h'.elim)) λ_ _ h'=>h'.elim))
theorem yp (elt target iter:Expr)(ifs:List Expr)(scope:Scope)(pos:Pos)(it acc:Value)(env:Env):
  compTurn (.SetComp elt [⟨target,iter,ifs,0⟩] scope pos) 0 it acc env=(do
   standAt iter.pos
   match <-pyNext it with
   |none=>pure (.done .next)
   |some v=>
    letOwnedTupleGo target it v
    assign target env v
    let mut ok:=true
    for c in ifs do
     if ok then ok <-isTrue c env (eval c env)
    if ok then
     (do let v <-eval elt env;standAt elt.pos;let _ <-call (.builtin "set.add") [acc,v])
    again (.compLoop (.SetComp elt [⟨target,iter,ifs,0⟩] scope pos) 0 it acc env)):=by rfl
theorem rJ {elt target iter:Expr}{ifs:List Expr}{scope:Scope}{pos:Pos}{it acc:Value}{env:Env}(I:Nat->Shared->Prop)
  (turn:∀ n s,I n s->wpAny (model prog w) A (pyNext it) (λr s₁=>match r with
   |none=>R (.ok .next) s₁
   |some v=>wpAny (model prog w) A (letOwnedTupleGo target it v) (λ_ s₀=>wpAny (model prog w) A (assign target env v) (λ_ s₂=>
     wpAny (model prog w) A (tJ ifs env) (λok s₃=>
      if ok=true then wpAny (model prog w) A (eval elt env) (λx s₄=>
       wpAny (model prog w) A (call (.builtin "set.add") [acc,x]) (λ_ s₅=>∃ m,m<n/\I m s₅) (λ_ _=>False) s₄) (λ_ _=>False) s₃
      else ∃ m,m<n/\I m s₃) (λ_ _=>False) s₂) (λ_ _=>False) s₀) (λ_ _=>False) s₁) (λ_ _=>False) s)
  (n:Nat) (h:I n s):
  codeAny (model prog w) A (.compLoop (.SetComp elt [⟨target,iter,ifs,0⟩] scope pos) 0 it acc env) R s:=by
 refine codeAny_loop rfl I (λn s hI=>?_) n h
 show wpAny _ A ((compTurn (.SetComp elt [⟨target,iter,ifs,0⟩] scope pos) 0 it acc env).onRaise (λx=>do noteFrame x env;theTreesLotGoes x)) _ _ s
 refine wpAny_noted ?_
 rw[yp]
 refine ae (cU (ae (bf (turn n s hI) (λr s₁ h₁=>?_) λ_ _ h'=>h'.elim)))
 cases r with
 |none=>exact aj h₁
 |some v=>
  refine ae (bf h₁ (λ_ s₀ h₀=>?_) λ_ _ h'=>h'.elim)
  refine ae (bf h₀ (λ_ s₂ h₂=>ae (bf h₂ (λok s₃ h₃=>?_) λ_ _ h'=>h'.elim)) λ_ _ h'=>h'.elim)
  cases ok with
  |false=>exact aj ⟨rfl,h₃⟩
  |true=>
   exact ae (ae (bf h₃ (λx s₄ h₄=>ae (cU (ae (bf h₄ (λ_ s₅ h₅=>aj (aj ⟨rfl,h₅⟩)) λ_ _ h'=>h'.elim)))) λ_ _ h'=>h'.elim))
theorem qt {elt target iter ifs rest scope pos it acc env}
  (h0:codeAny (model prog w) A (.compLoop (.SetComp elt (⟨target,iter,ifs,0⟩::rest) scope pos) 0 it acc env) R s)
  (h:wpAny (model prog w) A (pyIter it) (λit' s'=>codeAny (model prog w) A (.compLoop (.SetComp elt (⟨target,iter,ifs,0⟩::rest) scope pos) 0 it' acc env) R s')
   (notedBy (model prog w) A env λx s'=>R (.error x) s') s):
  codeAny (model prog w) A (.compStart (.SetComp elt (⟨target,iter,ifs,0⟩::rest) scope pos) 0 it acc env) R s:=by
 refine codeAny_of_tree ?_
 show wpAny _ _ ((compStart (.SetComp elt (⟨target,iter,ifs,0⟩::rest) scope pos) 0 it acc env).onRaise (λx=>do noteFrame x env;standAt theWindowsPlace)) _ _ s
 refine wpAny_notedAt ?_
 unfold compStart
 show wpAny _ _ (ask >>= _) _ _ s
 refine ae (wpAny_askSetting (wpAny_ite ?_))
 split
 ·first
   |exact ae (aj (aj (And.intro rfl h0)))
   |exact aj (And.intro rfl h0)
 ·first
   |exact ae (wpAny_rule (ae (cU (ae (bf h (λit' s' h'=>aj (And.intro rfl h')) λ_ _ x=>x)))))
   |(refine ae (wpAny_rule ?_);show wpAny _ _ (standAt iter.pos >>= _) _ _ s;exact ae (cU (ae (bf h (λit' s' h'=>aj (And.intro rfl h')) λ_ _ x=>x))))
end
open PyProof.Rows
noncomputable def oth (e:Int):Int:=e+1-2*(e%2)
theorem FG (x:Int):Builtin.bitXor x 1=oth x:=by
 rw[bitXor_and,bitAnd_m1];unfold oth;omega
theorem tM (e:Int):oth (oth e)=e:=by unfold oth;omega
theorem Ee (e:Int):oth e/2=e/2:=by unfold oth;omega
end TL
set_option maxHeartbeats 4000000
namespace TL
open PySem PySem.Spec PyProof.Rows L2
noncomputable abbrev St:=L2.St
noncomputable def fU (X:Cx)(scope:Scope)(cl:List (Str×Addr))(N:List Str)(fp:List Addr)(s3:Shared)(H3:Hp):Cx where
 prog:=X.prog
 w:=X.w
 K:=X.K
 mg:=X.mg
 base:=X.base
 A:=X.A
 N:=N
 s₀:=s3
 H₀:=H3
 env:=compEnvC scope cl s3.heap.objs.size X.env
 outer:=X.stack
 stack:=X.stack
 ex:=fp
 fn:=λ_=>false
 calm:=X.calm
 pn:=[]
 xe:=λ_ _=>False
noncomputable def Hn (NX:List Str)(scope:Scope)(N:List Str)(cap:List (Option Nat)):Bool:=
 (N.zip cap).all λp=>match p.2 with
  |none=>true
  |some j=>decide (NX[j]? = some p.1)&&decide (scope.names.lookup p.1=some .free)
structure gF (scX:Scope)(NX:List Str)(scope:Scope)(N:List Str)(own:Nat)(cap:List (Option Nat)):Prop where
 kind:scope.kind = .function
 sk:∀ y∈scope.names,y.2≠ .cell
 loc:∀ y∈scope.names,y.2 = .local->scope.names.lookup y.1=some .local
 fre:∀ y∈scope.names,y.2 = .free->scX.names.lookup y.1=some .cell\/scX.names.lookup y.1=some .free
 len:cap.length=N.length
 Rt:Hn NX scope N cap=true
 MR:(cap.take own).all (·.isNone)=true
 nd:N.Nodup
noncomputable def iF (cap:List (Option Nat))(σ:St):St:=cap.map λo=>o.bind λj=>(σ[j]?).bind id
variable {cap:List (Option Nat)}
theorem Df {σ:St} :(iF cap σ).length=cap.length:=by simp[iF]
theorem my {σ:St}{i:Nat}{v:V}(h:(iF cap σ)[i]? = some (some v)):∃ j,cap[i]? = some (some j)/\σ[j]? = some (some v):=by
 unfold iF at h
 rw[ah]at h
 cases e:cap[i]? with
 |none=>rw[e]at h;cases h
 |some o=>
  rw[e]at h
  cases o with
  |none=>cases h
  |some j=>
   refine⟨j,rfl,?_⟩
   have h':(σ[j]?).bind id=some v:=by simpa using h
   cases q:σ[j]? with
   |none=>rw[q]at h';cases h'
   |some z=>rw[q]at h';exact cf some h'
theorem gF.at {scX:Scope}{NX:List Str}{scope:Scope}{N:List Str}{own:Nat}{cap:List (Option Nat)}(C:gF scX NX scope N own cap){i j:Nat}{x:Str}(h1:N[i]? = some x)(h2:cap[i]? = some (some j)):
  NX[j]? = some x/\scope.names.lookup x=some .free:=by
 have h:=C.Rt
 unfold Hn at h
 have hm:(x,some j)∈N.zip cap:=by
  refine eA.mpr ⟨i,?_⟩
  rw[cI]
  exact⟨h1,h2⟩
 have:=cx.mp h _ hm
 simpa using this
theorem gF.o8 {scX:Scope}{NX:List Str}{scope:Scope}{N:List Str}{own:Nat}(C:gF scX NX scope N own cap){i j:Nat}(hi:i<own)(h:cap[i]? = some (some j)):False:=by
 have hm:some j∈cap.take own:=by
  refine eA.mpr ⟨i,?_⟩
  rw[fx hi]
  exact h
 have:=cx.mp C.MR _ hm
 cases this
section
variable {X:Cx}{pins:List (Addr×Obj)}{σ:St}{H H3:Hp}{s s3:Shared}{scope:Scope}{N:List Str}{own:Nat}{cap:List (Option Nat)}{cl:List (Str×Addr)}{fp:List Addr}
theorem pg (I3:Inv X pins σ H3 s3)(C:gF X.env.scope X.N scope N own cap)(jX:∀ x c,cl.lookup x=some c->X.env.cells.lookup x=some c)(mh:∀ y∈scope.names,y.2 = .free->∃ c,cl.lookup y.1=some c)
  (hf:∀ b∈fp,lS X pins H3 b/\b<s3.heap.objs.size) {h4:Heap}{tk:Nat}{m4:Str->Option Value} (hn:h4.Ns s3.heap.objs.size m4) (hk:∀ b u,s3.heap.get? b=some u->h4.get? b=some u):
  Inv (fU X scope cl N fp s3 H3) [] (iF cap σ) H3 {s3 with heap:=h4,toks:=tk} :=by
 refine⟨⟨I3.ok.mod,C.kind,I3.ok.glob,I3.ok.blt,ar _,λx y c e1 e2=>I3.ok.inj x y c (jX _ _ e1) (jX _ _ e2),λx hx=>?_,λx c h=>?_,I3.ok.hd,I3.ok.frames,.inl rfl,λb hb=>?_,
  I3.bs,bw I3.ok.bsz I3.sz,λb o e hb=>?_,λb hb hz=>?_,I3.stack,I3.xw⟩,rfl,I3.bare,Un.kept hk,⟨m4,hn,λi x v e1 e2 e3=>?_⟩,λx c e=>?_,I3.hok.fresh (ar _),λx c e=>I3.kC x c (jX x c e),
  λp hp=>absurd (show p∈([]:List (Addr×Obj)) from hp) (by simp),I3.hok.kept hk,?_⟩
 ·obtain⟨y,hy,e,f⟩:=lI (env:=X.env) C.sk hx
  obtain⟨c,q⟩:=mh y hy f
  exact⟨c,by rw[<-e];exact q⟩
 ·exact absurd (show false=true from h) aB
 ·obtain⟨⟨f0,f1,f2,f3,f4,f5⟩,hlt⟩:=hf b hb
  exact⟨aL hlt,λx c e=>f4 x c (jX x c e)⟩
 ·obtain⟨⟨f0,f1,f2,f3,f4,f5⟩,hlt⟩:=hf b hb
  rcases f3 with z |z
  ·exact I3.ok.AE b o e z
  ·exact absurd (aU (aA e) (bw I3.ok.bsz z)) (di _)
 ·obtain⟨⟨f0,f1,f2,f3,f4,f5⟩,hlt⟩:=hf b hb
  rcases aE.mp (I3.nv b hz)with z |z
  ·exact f1 z
  ·exact f2 z
 ·obtain⟨j,c1,c2⟩:=my e2
  obtain⟨d1,d2⟩:=C.at e1 c1
  have hk2:=C.fre (x,.free) (cB d2) rfl
  obtain⟨mX,hnX,hl⟩:=I3.loc
  obtain⟨u,r,l⟩:=hl j x v d1 c2 (.inr hk2)
  refine⟨u,r,?_⟩
  rcases l with⟨k,_⟩|⟨k,c,e,z⟩
  ·exfalso
   have k':X.env.scope.names.lookup x=some .local:=k
   rcases hk2 with q |q
   ·rw[k']at q;cases q
   ·rw[k']at q;cases q
  ·obtain⟨c',q⟩:=mh (x,.free) (cB d2) rfl
   have e':=jX x c' q
   rw[e]at e'
   cases e'
   obtain⟨o,ho,hd⟩:=z
   exact .inr ⟨lU (env:=X.env) d2,c,q,o,hk _ _ ho,hd⟩
 ·obtain⟨v,o,ho,hd⟩:=I3.cell x c (jX x c e)
  exact⟨v,o,hk _ _ ho,hd⟩
 ·rw[Df];exact C.len
theorem comp_back {sT:List (Addr×Obj)}{σ':St}{H':Hp}{s':Shared}(I3:Inv X pins σ H3 s3)(hf:∀ b∈fp,lS X pins H3 b)(I':Inv (fU X scope cl N fp s3 H3) sT σ' H' s'):Inv X pins σ H' s':=
 I3.Ho (ch:=fp) I'.os I'.base I'.hok I'.bare λb hb=>by
  obtain⟨f0,f1,f2,f3,f4,f5⟩:=hf b hb
  exact⟨f3,f1,f4,f5⟩
structure Apart (X:Cx)(pins:List (Addr×Obj))(C:Addr):Prop where
 loc:C≠X.env.locals
 new:X.s₀.heap.objs.size<=C
 cel:∀ x c,X.env.cells.lookup x=some c->c≠C
 pin:∀ p∈X.pn++pins,p.1≠C
theorem Inv.apart (I3:Inv X pins σ H3 s3):Apart X pins s3.heap.objs.size:=
 ⟨cW I3.lt,I3.sz,λx c e=>by obtain⟨v,o,ho,_⟩:=I3.cell x c e;exact aL (aA ho),λp hp=>aL (aA (I3.pin p hp).1)⟩
theorem mx {C:Addr}{h':Heap}(I:Inv X pins σ H s)(P:Apart X pins C)(hn:H C=none)(hs:Heap.SameBut C s.heap h'):Inv X pins σ H {s with heap:=h'} :=
 I.turned (t':=s.toks) (λb o hb e=>(hs.2 b hb).trans e) hn P.loc (.inr P.new) P.cel P.pin
end
structure qj (own:Nat)(g:TG):Prop where
 mono:∀ v σ H Q Q',(∀ σ' H',Q σ' H'->Q' σ' H')->g v σ H Q->g v σ H Q'
 own:∀ v σ H Q,g v σ H Q->g v σ H λσ' H'=>Q σ' H'/\σ'.length=σ.length/\∀ i,own<=i->σ'[i]? = σ[i]?
structure xt (own:Nat)(g:TGs):Prop where
 mono:∀ v σ H Q Q',(∀ σ' H',Q σ' H'->Q' σ' H')->g v σ H Q->g v σ H Q'
 own:∀ v σ H Q,g v σ H Q->g v σ H λσ' H'=>Q σ' H'/\σ'.length=σ.length/\∀ i,own<=i->σ'[i]? = σ[i]?
theorem qj.name {own i:Nat}(h:i<own):qj own (oN i):=
 ⟨λv σ H Q Q' f q=>f _ _ q,λv σ H Q q=>⟨q,List.length_set,λj hj=>eL (by omega)⟩⟩
theorem xt.nil {own:Nat} :xt own KU:=⟨λv σ H Q Q' f q=>⟨q.1,f _ _ q.2⟩,λv σ H Q q=>⟨q.1,q.2,rfl,λ_ _=>rfl⟩⟩
theorem xt.cons {own:Nat}{t:TG}{u:TGs}(h1:qj own t)(h2:xt own u):xt own (Hg t u) where
 mono:=λv σ H Q Q' f ⟨x,r,e,q⟩=>⟨x,r,e,h1.mono _ _ _ _ _ (λσ' H' q=>h2.mono _ _ _ _ _ f q) q⟩
 own:=λv σ H Q ⟨x,r,e,q⟩=>⟨x,r,e,h1.mono _ _ _ _ _ (λσ1 H1 ⟨q,l1,o1⟩=>h2.mono _ _ _ _ _ (λσ2 H2 ⟨q,l2,o2⟩=>⟨q,l2.trans l1,λi hi=>(o2 i hi).trans (o1 i hi)⟩) (h2.own _ _ _ _ q)) (h1.own _ _ _ _ q)⟩
theorem qj.tup {own n:Nat}{K:PySem.W.Frag}{t:TGs}(h:xt own t):qj own (KS K n t) where
 mono:=λv σ H Q Q' f ⟨a,xs,e,q1,q2,q⟩=>⟨a,xs,e,q1,q2,h.mono _ _ _ _ _ f q⟩
 own:=λv σ H Q ⟨a,xs,e,q1,q2,q⟩=>⟨a,xs,e,q1,q2,h.own _ _ _ _ q⟩
noncomputable def sE (X:Cx)(ifs:List Expr)(t:TT):Prop:=
 ∀ (pins:List (Addr×Obj)) (s:Shared) (σ:St) (H:Hp) (Q:Bool->Hp->Prop),Inv X pins σ H s->t σ H Q->wpAny (model X.prog X.w) X.A (tJ ifs X.env) (TP X pins σ Q) X.xe s
noncomputable def Ag:TT:=λ_ H Q=>Q true H
theorem g8 {X:Cx} :sE X [] Ag:=λ_ _ _ H _ I h=>wpAny_tests_nil ⟨H,I,h⟩
theorem mK {X:Cx}{c:Expr}{t:TT}(h:PT X c t):sE X [c] t:=λpins s σ H Q I q=>wpAny_tests_one (h pins s σ H Q I q)
noncomputable def LcW (J:It)(g:TG)(tt:TT)(te:TE)(cap:List (Option Nat))(σ:St)(Q:VK)(l:Addr)(H1:Hp):Prop:=
 ∃ W:Nat->Nat->List V->Hp->Prop,(∃ m,W 0 m [] (upd H1 l (.lst [])))/\∀ i m acc H,W i m acc H->
  (J.stop i H/\Q (.ref l) H)\/(J.go i H/\∃ N:List V->Hp->Prop,(∀ vZ H',N vZ H'->∃ m',m'<m/\W (i+1) m' vZ H')/\
   ∀ x H',J.yld i H x H'->g x (iF cap σ) H' λσ2 H2=>tt σ2 H2 λb H3=>
    if b=true then te σ2 H3 λy H4=>H4 l=some (.lst acc)/\acc.length<sizeLine/\N (acc ++ [y]) (upd H4 l (.lst (acc ++ [y])))
    else N acc H3)
noncomputable def tLC (wi:TI)(cap:List (Option Nat))(g:TG)(tt:TT)(te:TE):TE:=λσ H Q=>wi σ H λJ H1=>∀ l,H1 l=none->
 LcW J g tt te cap σ Q l H1
section
variable {X:Cx}{pins:List (Addr×Obj)}{σ:St}{H1:Hp}{s2:Shared}{scope:Scope}{N:List Str}{own:Nat}{cap:List (Option Nat)}{cl:List (Str×Addr)}{fp:List Addr}
 {tg iter elt:Expr}{ifs:List Expr}{pos:Pos}{g:TG}{tt:TT}{te:TE}{wi:TI}
theorem zO {it:Addr}{tn:Nat->Heap->Prop}{J:It}{Q:VK}{RR:Value->Addr->Result->Shared->Prop}{E:Value->Shared->Prop}(I:Inv X pins σ H1 s2)(T:Turn X.prog X.w X.K tg J fp it tn)(t0:tn 0 s2.heap)
  (f:∀ b∈fp,lS X pins H1 b) (hc:X.calm=true) (C:gF X.env.scope X.N scope N own cap) (ho:qj own g)
  (jX:∀ x c,cl.lookup x=some c->X.env.cells.lookup x=some c) (mh:∀ y∈scope.names,y.2 = .free->∃ c,cl.lookup y.1=some c)
  (hg:∀ s3 H3,PG (fU X scope cl N fp s3 H3) tg g) (ht:∀ s3 H3,sE (fU X scope cl N fp s3 H3) ifs tt) (he:∀ s3 H3,PE (fU X scope cl N fp s3 H3) elt te)
  (hw:∀ l,H1 l=none->LcW J g tt te cap σ Q l H1)
  (fin:∀ l C s' H' m',Inv X pins σ H' s'->s'.heap.Ns C m'->H' C=none->Apart X pins C->Q (.ref l) H'->RR (.ref l) C (.ok .next) s'):
  wpAny (model X.prog X.w) X.A (newList []) (λacc s₃=>wpAny (model X.prog X.w) X.A (newFunctionEnv scope X.env.globals cl [] X.env.qual none .none (some X.env)) (λrL s₄=>
   codeAny (model X.prog X.w) X.A (.compStart (.ListComp elt [⟨tg,iter,ifs,0⟩] scope pos) 0 (.ref it) acc {rL with scope:=relabel scope X.env}) (RR acc rL.locals) s₄) E s₃) E s2:=by
 refine bW (dO C.sk (by intro y hy;simp at hy) (λh₁ jk jj=>?_) C.kind)
 dsimp only at jk jj ⊢
 obtain⟨W,⟨m0,w0⟩,turn⟩:=hw s2.heap.objs.size I.fresh
 have I3:Inv X pins σ (upd H1 s2.heap.objs.size (.lst [])) {s2 with heap:=s2.heap.push {cls:=.type "list",dict:=none,data:=.seq ([]:List Value).toArray}} :=I.Io (ys:=[]) (its:=[]) (t':=s2.toks) .nil (aI _)
 generalize hs3:({s2 with heap:=s2.heap.push {cls:=.type "list",dict:=none,data:=.seq ([]:List Value).toArray}} :Shared)=s3 at I3
 have hh3:s3.heap=s2.heap.push {cls:=.type "list",dict:=none,data:=.seq ([]:List Value).toArray} :=by rw[<-hs3]
 rw[<-hh3]at jk jj ⊢
 have e4:({s2 with heap:=h₁,toks:=s2.toks+([]:List (Str×Value)).length} :Shared) = {s3 with heap:=h₁,toks:=s2.toks} :=by rw[<-hs3];rfl
 rw[e4]
 have k4:∀ b u,s3.heap.get? b=some u->h₁.get? b=some u:=λb u e=>jj.extBut b u (aL (aA e)) (ax _ e)
 have k3:∀ b u,s2.heap.get? b=some u->s3.heap.get? b=some u:=λb u e=>by rw[hh3];exact ax _ e
 have hb2:∀ b∈fp,b<s2.heap.objs.size:=λb hb=>by obtain⟨o,e,_⟩:=T.obj _ _ t0 b hb;exact aA e
 have f3:∀ b∈fp,lS X pins (upd H1 s2.heap.objs.size (.lst [])) b:=λb hb=>by
  obtain⟨f0,fr⟩:=f b hb
  exact⟨by rw[fK (aL (hb2 b hb))];exact f0,fr⟩
 have hb3:∀ b∈fp,b<s3.heap.objs.size:=λb hb=>by obtain⟨o,e,_⟩:=T.obj _ _ t0 b hb;exact aA (k3 b o e)
 have I4:=pg (tk:=s2.toks) I3 C jX mh (λb hb=>⟨f3 b hb,hb3 b hb⟩) jk k4
 generalize hH3:upd H1 s2.heap.objs.size (.lst [])=H3 at *
 have st4:tn 0 h₁:=T.keep _ _ _ t0 λb hb o e=>k4 b o (k3 b o e)
 have fpX:∀ {H':Hp},(∀ b∈fp,H' b=none)->∀ b∈fp,lS (fU X scope cl N fp s3 H3) [] H' b:=λ{H'} hn b hb=>by
  obtain⟨f0,f1,f2,f3',f4,f5⟩:=f3 b hb
  refine⟨hn b hb,aL (hb3 b hb),λhz=>?_,.inl hb,λx c e=>f4 x c (jX x c e),λp hp=>absurd (show p∈([]:List (Addr×Obj)) from hp) (by simp)⟩
  rcases aE.mp (I3.nv b hz)with z |z
  ·exact f1 z
  ·exact f2 z
 have loop:codeAny (model X.prog X.w) X.A (.compLoop (.ListComp elt [⟨tg,iter,ifs,0⟩] scope pos) 0 (.ref it) (.ref s2.heap.objs.size) (compEnvC scope cl s3.heap.objs.size X.env)) (RR (.ref s2.heap.objs.size) s3.heap.objs.size) {s3 with heap:=h₁,toks:=s2.toks} :=by
  refine zP (λn s'=>∃ i acc H',Inv (fU X scope cl N fp s3 H3) [] (iF cap σ) H' s'/\tn i s'.heap/\(∀ b∈fp,H' b=none)/\W i n acc H') ?_ m0 ⟨0,[],H3,I4,st4,λb hb=>(f3 b hb).1,w0⟩
  rintro n s' ⟨i,acc,H',I',st,fr,w⟩
  rcases turn i n acc H' w with⟨stop,q⟩|⟨go,NN,hNN,step⟩
  ·refine thn (T.done (fU X scope cl N fp s3 H3) rfl rfl rfl hc i [] s' _ H' (λ_ _=>False) I' (fpX fr) st stop) λr s5 ⟨hr,I5⟩=>?_
   subst hr
   obtain⟨m5,hn5,_⟩:=id I5.loc
   exact fin _ _ s5 H' m5 (comp_back I3 f3 I5) hn5 I5.free (TL.Inv.apart I3) q
  ·refine thn (T.item (fU X scope cl N fp s3 H3) rfl rfl rfl hc i [] s' _ H' (λ_ _=>False) I' (fpX fr) st go) λr s5 ⟨u,hr,h5⟩=>?_
   subst hr
   refine thn h5 λ_ s6 ⟨x,H6,I6,r6,y6,st6,fr6⟩=>?_
   have I6':=I6.pinned (fpX fr6) (T.obj _ _ st6)
   refine thn (hg s3 H3 _ s6 _ H6 x u _ I6' r6 (ho.own _ _ _ _ (step x H6 y6))) λ_ s7 ⟨σ7,H7,I7,q7,l7,o7⟩=>?_
   have cov:∀ (i:Nat) v,(iF cap σ)[i]? = some (some v)->σ7[i]? = some (some v):=λi v e=>by
    obtain⟨j,c1,c2⟩:=my e
    by_cases hi:i<own
    ·exact(C.o8 hi c1).elim
    ·rw[o7 i (by omega)];exact e
   have back:∀ {H8:Hp}{s8:Shared},Inv (fU X scope cl N fp s3 H3) ([]++ox fp s6.heap) σ7 H8 s8->Inv (fU X scope cl N fp s3 H3) [] (iF cap σ) H8 s8/\tn (i+1) s8.heap/\∀ b∈fp,H8 b=none:=λ{H8 s8} I8=>by
    refine⟨(Inv.lF (pins:=[]) I8).weak l7.symm cov,T.keep _ _ _ st6 λb hb o e=>(I8.pin (b,o) (az _ (az _ (iI hb e)))).1,λb hb=>?_⟩
    obtain⟨o,e,d⟩:=T.obj _ _ st6 b hb
    exact(I8.pin (b,o) (az _ (az _ (iI hb e)))).2.1
   refine thn (ht s3 H3 _ s7 σ7 H7 _ I7 q7) λb s8 ⟨H8,I8,q8⟩=>?_
   cases b with
   |false=>
    rw[aG aB]at q8 ⊢
    obtain⟨m',hm,w8⟩:=hNN _ _ q8
    obtain⟨J1,J2,J3⟩:=back I8
    exact⟨m',hm,i+1,acc,H8,J1,J2,J3,w8⟩
   |true=>
    rw[aQ rfl]at q8 ⊢
    refine thn (he s3 H3 _ s8 σ7 H8 _ I8 q8) λv s9 ⟨y,H9,I9,r9,ha,hz,n9⟩=>?_
    obtain⟨m',hm,w9⟩:=hNN _ _ n9
    refine thn (iD _ s9 σ7 H9 (.ref s2.heap.objs.size) [y] (.ref s2.heap.objs.size) [v] (λ_ H10=>W (i+1) m' (acc ++ [y]) H10) I9 rfl (.cons r9 .nil) ⟨_,acc,y,rfl,rfl,ha,hz,w9⟩) λ_ s10 ⟨_,H10,I10,_,w10⟩=>?_
    obtain⟨J1,J2,J3⟩:=back I10
    exact⟨m',hm,i+1,acc ++ [y],H10,J1,J2,J3,w10⟩
 exact codeAny_compStart_list loop (T.self X.A 0 _ _ _ st4 loop)
theorem lJ (hi:PI X tg iter wi)(hc:X.calm=true)(C:gF X.env.scope X.N scope N own cap)(ho:qj own g)
  (hg:∀ cl fp s3 H3,PG (fU X scope cl N fp s3 H3) tg g) (ht:∀ cl fp s3 H3,sE (fU X scope cl N fp s3 H3) ifs tt) (he:∀ cl fp s3 H3,PE (fU X scope cl N fp s3 H3) elt te)
  (hs:∀ x,foldedSetIterable iter X.env x=pure x:=by intro _;rfl):PE X (.ListComp elt [⟨tg,iter,ifs,0⟩] scope pos) (tLC wi cap g tt te):=by
 intro pins s σ H Q I h
 obtain⟨cl,ecl,jX,mh⟩:=kW (scope:=scope) (env:=X.env) λy hy hf=>I.ok.has y.1 (C.fre y hy hf)
 rw[eval_ListComp]
 refine cA (use:=none) rfl hs ecl C.kind C.loc (thn (hi pins s σ H _ I h) λxv s1 h1=>thn h1 λitv s2 h2=>?_)
 obtain⟨it,fp,tn,J,H2,e,I2,T,st2,f2,hw⟩:=h2
 subst e
 refine zO (RR:=λacc C=>compPost (model X.prog X.w) X.A X.xe none (EP X pins σ Q) acc C) I2 T st2 f2 hc C ho jX mh (hg cl fp) (ht cl fp) (he cl fp) hw λl Ca s' H' m' I' hn kL hP q=>?_
 exact⟨m',hn,λh'' vg=>⟨.ref l,H',mx I' hP kL vg,rfl,q⟩⟩
theorem wK {i:Nat}{x:Str}{pos' DE:Pos}(hN:X.N.Nodup)(hi':X.N[i]? = some x)(hx:X.env.scope.names.lookup x=some .local)(hi:PI X tg iter wi)(hc:X.calm=true)(C:gF X.env.scope X.N scope N own cap)(ho:qj own g)
  (hg:∀ cl fp s3 H3,PG (fU X scope cl N fp s3 H3) tg g) (ht:∀ cl fp s3 H3,sE (fU X scope cl N fp s3 H3) ifs tt) (he:∀ cl fp s3 H3,PE (fU X scope cl N fp s3 H3) elt te)
  (hsw:swapsWith (.ListComp elt [⟨tg,iter,ifs,0⟩] scope pos) (some (.Name x pos')) DE.line X.env=pure true:=by rfl)
  (hs:∀ x,foldedSetIterable iter X.env x=pure x:=by intro _;rfl):PS X (.Assign [.Name x pos'] (.ListComp elt [⟨tg,iter,ifs,0⟩] scope pos) DE) (Dz (tLC wi cap g tt te) (oN i)):=by
 intro pins s σ H D I h
 obtain⟨cl,ecl,jX,mh⟩:=kW (scope:=scope) (env:=X.env) λy hy hf=>I.ok.has y.1 (C.fre y hy hf)
 rw[exec_Assign_Name_used _ _ _ _ hsw]
 refine ae (cU (ae ?_))
 show wpAny _ X.A (do let _ <-comprehension (.ListComp elt [⟨tg,iter,ifs,0⟩] scope pos) scope X.env _ (newList []) false (eval iter X.env) (some (assign (.Name x pos') X.env))) _ _ s
 refine ae (bf (cA (use:=some (assign (.Name x pos') X.env)) (Q:=λ_ s'=>SP X pins D .next s') rfl hs ecl C.kind C.loc
  (thn (hi pins s σ H _ I h) λxv s1 h1=>thn h1 λitv s2 h2=>?_)) (λ_ s' hq=>aj (aj hq)) λ_ _ e=>e)
 obtain⟨it,fp,tn,J,H2,e,I2,T,st2,f2,hw⟩:=h2
 subst e
 refine zO (RR:=λacc C=>compPost (model X.prog X.w) X.A X.xe (some (assign (.Name x pos') X.env)) (λ_ s'=>SP X pins D .next s') acc C) I2 T st2 f2 hc C ho jX mh (hg cl fp) (ht cl fp) (he cl fp) hw λl Ca s' H' m' I' hn kL hP q=>?_
 show wpAny _ X.A (assign (.Name x pos') X.env (.ref l)) _ _ _
 refine wpAny_assign_Name (rZ I' hN hi' (.inl hx) (v:=.ref l) rfl (λs5 I5 ⟨a,sb,ha⟩=>?_) (.inr hx))
 have hne:Ca≠a:=by
  rcases ha with z |z
  ·rw[z];exact hP.loc
  ·exact λe=>hP.cel x a z e.symm
 refine⟨m',hn.sameBut sb hne,λh'' vg=>⟨_,H',mx I5 hP kL vg,q⟩⟩
end
section
variable {K:PySem.W.Frag}{a l:Addr}{xs:List V}{g:TG}{tt:TT}{te:TE}{cap:List (Option Nat)}{σ:St}{Q:VK}{H1:Hp}
theorem Gm (Pv:Nat->List V->Hp->Prop)(h0:Pv 0 [] (upd H1 l (.lst [])))(hl:∀ i acc H,i<=xs.length->Pv i acc H->SqL K H a xs)
  (hs:∀ i x acc H,xs[i]? = some x->Pv i acc H->g x (iF cap σ) H λσ2 H2=>tt σ2 H2 λb H3=>
    if b=true then te σ2 H3 λy H4=>H4 l=some (.lst acc)/\acc.length<sizeLine/\Pv (i+1) (acc ++ [y]) (upd H4 l (.lst (acc ++ [y])))
    else Pv (i+1) acc H3) (hd:∀ acc H,Pv xs.length acc H->Q (.ref l) H):LcW (Itl K a) g tt te cap σ Q l H1:=by
 refine⟨λi m acc H=>m=xs.length-i/\i<=xs.length/\Pv i acc H,⟨xs.length,by simp,aI _,h0⟩,?_⟩
 rintro i m acc H ⟨rfl,hi,p⟩
 have q:=hl i acc H hi p
 by_cases hlt:i<xs.length
 ·refine .inr ⟨⟨xs,xs[i],q,by simp[hlt]⟩,Pv (i+1),λvZ H' p'=>⟨xs.length-(i+1),by omega,rfl,hlt,p'⟩,λx H' y=>?_⟩
  obtain⟨e,y⟩:=y
  subst e
  exact hs i x acc _ (y xs q) p
 ·have e:i=xs.length:=by omega
  subst e
  exact .inl ⟨⟨xs,q,ar _⟩,hd acc H p⟩
theorem fF {H:Hp}{l:Addr}{o:HO}(hn:H l=none):fL H (upd H l o):=λb u e=>by rw[fK (fN e hn)];exact e
theorem mf {α:Type}(ds:List α)(p:α->Bool)(f:α->V)(hn:H1 l=none)(hx:SqL K H1 a xs)(hlen:xs.length=ds.length)(hz:xs.length<sizeLine)
  (hs:∀ (i:Nat) x d H,xs[i]? = some x->ds[i]? = some d->fL H1 H->∀ (P1:VK) (P0:Hp->Prop),(p d=true->P1 (f d) H)->(p d=false->P0 H)->
   g x (iF cap σ) H λσ2 H2=>tt σ2 H2 λb H3=>if b=true then te σ2 H3 P1 else P0 H3)
  (hq:Q (.ref l) (upd H1 l (.lst ((ds.filter p).map f)))):LcW (Itl K a) g tt te cap σ Q l H1:=by
 refine Gm (λi acc H=>acc=((ds.take i).filter p).map f/\H=upd H1 l (.lst acc)) ⟨rfl,rfl⟩ (λi acc H _ ⟨_,e⟩=>by rw[e];exact(fF hn).seq hx) ?_ ?_
 ·rintro i x acc H hi ⟨e1,e2⟩
  have hlt:i<xs.length:=(af.mp hi).1
  have hd:ds[i]? = some (ds[i]'(by omega)):=by simp
  generalize ds[i]'(by omega)=d at hd
  have step:((ds.take (i+1)).filter p).map f=acc++(if p d=true then[f d]else[]):=by
   rw[take_succ_filter p ds i d hd,av,e1]
   cases p d<;>rfl
  refine hs i x d H hi hd (by rw[e2];exact fF hn) _ _ (λhp=>?_) (λhp=>?_)
  ·refine⟨by rw[e2,fE],?_,?_,?_⟩
   ·have h1:acc.length<=i:=by
     rw[e1,aa]
     exact bw (bS _ _) (by rw[aM];omega)
    omega
   ·rw[step,hp];rfl
   ·rw[e2,qK]
  ·refine⟨?_,e2⟩
   rw[step,hp,aG aB,dS]
 ·rintro acc H ⟨e1,e2⟩
  rw[hlen,aX]at e1
  rw[e2,e1]
  exact hq
end
mutual
noncomputable def Dg (L T:Addr->List V->Prop):PyData->V->Prop
 |.none,v=>v = .non
 |.bool b,v=>v = .bl b
 |.int i,v=>v = .int i
 |.str x,v=>v = .str x
 |.list ds,v=>∃ a vs,v = .ref a/\L a vs/\Dgs L T ds vs
 |.tuple ds,v=>∃ a vs,v = .ref a/\T a vs/\Dgs L T ds vs
 |.dict _,_=>False
noncomputable def Dgs (L T:Addr->List V->Prop):List PyData->List V->Prop
 |[],vs=>vs = []
 |d::ds,vs=>∃ v r,vs=v::r/\Dg L T d v/\Dgs L T ds r
end
mutual
theorem Dg.mono {L T L' T':Addr->List V->Prop}(hL:∀ a vs,L a vs->L' a vs)(hT:∀ a vs,T a vs->T' a vs):∀ {d:PyData}{v:V},Dg L T d v->Dg L' T' d v
 |.none,_,h=>by simpa only[Dg]using h
 |.bool _,_,h=>by simpa only[Dg]using h
 |.int _,_,h=>by simpa only[Dg]using h
 |.str _,_,h=>by simpa only[Dg]using h
 |.list ds,_,h=>by
  simp only[Dg]at h ⊢
  obtain⟨a,vs,e,l,q⟩:=h
  exact⟨a,vs,e,hL a vs l,Dgs.mono hL hT q⟩
 |.tuple ds,_,h=>by
  simp only[Dg]at h ⊢
  obtain⟨a,vs,e,l,q⟩:=h
  exact⟨a,vs,e,hT a vs l,Dgs.mono hL hT q⟩
 |.dict _,_,h=>by simp only[Dg]at h
theorem Dgs.mono {L T L' T':Addr->List V->Prop}(hL:∀ a vs,L a vs->L' a vs)(hT:∀ a vs,T a vs->T' a vs):∀ {ds:List PyData}{vs:List V},Dgs L T ds vs->Dgs L' T' ds vs
 |[],_,h=>by simpa only[Dgs]using h
 |d::ds,_,h=>by
  simp only[Dgs]at h ⊢
  obtain⟨v,r,e,l,q⟩:=h
  exact⟨v,r,e,Dg.mono hL hT l,Dgs.mono hL hT q⟩
end
section
variable {L T:Addr->List V->Prop}
theorem iB {i:Int}{v:V} :Dg L T (.int i) v↔v = .int i:=by simp only[Dg]
theorem A0 {i:Str}{v:V} :Dg L T (.str i) v↔v = .str i:=by simp only[Dg]
theorem iE {ds:List PyData}{v:V} :Dg L T (.list ds) v↔∃ a vs,v = .ref a/\L a vs/\Dgs L T ds vs:=by simp only[Dg]
theorem ie {ds:List PyData}{v:V} :Dg L T (.tuple ds) v↔∃ a vs,v = .ref a/\T a vs/\Dgs L T ds vs:=by simp only[Dg]
theorem gN {vs:List V} :Dgs L T [] vs↔vs = []:=by simp only[Dgs]
theorem gm {d:PyData}{ds:List PyData}{vs:List V} :Dgs L T (d::ds) vs↔∃ v r,vs=v::r/\Dg L T d v/\Dgs L T ds r:=by simp only[Dgs]
theorem Dgs.length:∀ {ds:List PyData}{vs:List V},Dgs L T ds vs->vs.length=ds.length
 |[],_,h=>by rw[gN.mp h];rfl
 |d::ds,_,h=>by
  obtain⟨v,r,rfl,_,q⟩:=gm.mp h
  rw[aO,aO,Dgs.length q]
theorem nY:∀ {ns:List Int}{vs:List V},Dgs L T (ns.map .int) vs↔vs=ns.map V.int
 |[],vs=>gN
 |n::ns,vs=>by
  rw[aZ,gm]
  constructor
  ·rintro⟨v,r,rfl,h1,h2⟩
   rw[iB.mp h1,nY.mp h2];rfl
  ·rintro rfl
   exact⟨_,_,rfl,iB.mpr rfl,nY.mpr rfl⟩
theorem Dgs.append:∀ {ds es:List PyData}{vs us:List V},Dgs L T ds vs->Dgs L T es us->Dgs L T (ds++es) (vs++us)
 |[],_,_,_,h,k=>by rw[gN.mp h];exact k
 |d::ds,_,_,_,h,k=>by
  obtain⟨v,r,rfl,h1,q⟩:=gm.mp h
  exact gm.mpr ⟨v,_,rfl,h1,Dgs.append q k⟩
theorem Dgs.one {d:PyData}{v:V}(h:Dg L T d v):Dgs L T [d] [v]:=gm.mpr ⟨v,[],rfl,h,gN.mpr rfl⟩
theorem Dgs.two {d e:PyData}{v u:V}(h:Dg L T d v)(k:Dg L T e u):Dgs L T [d,e] [v,u]:=gm.mpr ⟨v,[u],rfl,h,.one k⟩
theorem Dgs.get:∀ {ds:List PyData}{vs:List V}{i:Nat}{v:V},Dgs L T ds vs->vs[i]? = some v->∃ d,ds[i]? = some d/\Dg L T d v
 |[],_,_,_,h,e=>by rw[gN.mp h]at e;simp at e
 |d::ds,_,0,v,h,e=>by
  obtain⟨x,r,rfl,h1,q⟩:=gm.mp h
  simp at e;subst e
  exact⟨d,rfl,h1⟩
 |d::ds,_,i+1,v,h,e=>by
  obtain⟨x,r,rfl,h1,q⟩:=gm.mp h
  obtain⟨d',e1,e2⟩:=Dgs.get (i:=i) (v:=v) q (by simpa using e)
  exact⟨d',by simpa using e1,e2⟩
theorem Dgs.insert:∀ {ds:List PyData}{vs:List V} (i:Nat) {d:PyData}{v:V},Dgs L T ds vs->Dg L T d v->Dgs L T (ds.take i++d::ds.drop i) (vs.take i++v::vs.drop i)
 |ds,vs,0,d,v,h,k=>gm.mpr ⟨v,vs,by simp,k,by simpa using h⟩
 |[],vs,i+1,d,v,h,k=>by rw[gN.mp h];simpa using Dgs.one k
 |x::ds,vs,i+1,d,v,h,k=>by
  obtain⟨y,r,rfl,h1,q⟩:=gm.mp h
  exact gm.mpr ⟨y,_,rfl,h1,Dgs.insert i q k⟩
end
noncomputable abbrev Da (K:PySem.W.Frag)(H:Hp):PyData->V->Prop:=Dg (SqL K H) (SqT K H)
noncomputable abbrev Das (K:PySem.W.Frag)(H:Hp):List PyData->List V->Prop:=Dgs (SqL K H) (SqT K H)
theorem gx {K:PySem.W.Frag}{H H':Hp}{a:Addr}{xs:List V}(e:fL H H')(h:SqT K H a xs):SqT K H' a xs:=by
 rcases h with(h |⟨o,h⟩)|h
 ·exact .inl (.inl (e _ _ h))
 ·exact .inl (.inr ⟨o,e _ _ h⟩)
 ·exact .inr h
theorem Da.same {K:PySem.W.Frag}{H H':Hp}(e:fL H H'){d:PyData}{v:V}(h:Da K H d v):Da K H' d v:=Dg.mono (λ_ _ q=>e.seq q) (λ_ _ q=>gx e q) h
theorem Das.same {K:PySem.W.Frag}{H H':Hp}(e:fL H H'){d:List PyData}{v:List V}(h:Das K H d v):Das K H' d v:=Dgs.mono (λ_ _ q=>e.seq q) (λ_ _ q=>gx e q) h
section
variable {X:Cx}{pins:List (Addr×Obj)}{σ:St}{H:Hp}{s:Shared}
mutual
theorem Da.reads (I:Inv X pins σ H s):∀ {d:PyData}{v:V}{u:Value},Da X.K H d v->RelV v u->∃ as,Reads s.heap u d as
 |.none,v,u,h,r=>by
  have e:v = .non:=by simpa only[Dg]using h
  subst e;cases r;exact⟨_,.none⟩
 |.bool b,v,u,h,r=>by
  have e:v = .bl b:=by simpa only[Dg]using h
  subst e;cases r;exact⟨_,.bool b⟩
 |.int i,v,u,h,r=>by
  have e:v = .int i:=by simpa only[Dg]using h
  subst e;obtain⟨t,rfl⟩:=r;exact⟨_,.int i t⟩
 |.str i,v,u,h,r=>by
  have e:v = .str i:=by simpa only[Dg]using h
  subst e;obtain⟨t,rfl⟩:=r;exact⟨_,.str i t⟩
 |.list ds,v,u,h,r=>by
  obtain⟨a,vs,rfl,l,q⟩:=iE.mp h
  cases r
  obtain⟨its,rv,p,hz⟩:=I.list l
  obtain⟨as,rs⟩:=Das.reads I q rv
  obtain⟨o,ho,hc,n,hd⟩:=p.isList
  exact⟨_,.list ho hc hd (by simpa using rs)⟩
 |.tuple ds,v,u,h,r=>by
  obtain⟨a,vs,rfl,l,q⟩:=ie.mp h
  cases r
  obtain⟨its,rv,p,hz⟩:=I.tuple l
  obtain⟨as,rs⟩:=Das.reads I q rv
  obtain⟨o,ho,hc,n,hd⟩:=p
  exact⟨_,.tuple ho hc hd (by simpa using rs)⟩
 |.dict _,v,u,h,r=>by simp only[Dg]at h
theorem Das.reads (I:Inv X pins σ H s):∀ {ds:List PyData}{vs:List V}{us:List Value},Das X.K H ds vs->Vals vs us->∃ as,ReadsAll s.heap us ds as
 |[],vs,us,h,r=>by
  rw[gN.mp h]at r;cases r;exact⟨_,.nil⟩
 |d::ds,vs,us,h,r=>by
  obtain⟨v,w,rfl,h1,q⟩:=gm.mp h
  cases r with
  |cons r1 r2=>
   obtain⟨as,e1⟩:=Da.reads I h1 r1
   obtain⟨bs,e2⟩:=Das.reads I q r2
   exact⟨_,.cons e1 e2⟩
end
end
section
variable {X:Cx}
noncomputable def OkD (d:PyData):Prop:=d.canLay0=true/\d.depth<=20
noncomputable def Mh (K:PySem.W.Frag):R2:=λx y H Q=>∃ d e,Da K H d x/\Da K H e y/\OkD d/\OkD e/\Q (.bl (PyData.eqv d e)) H
noncomputable def Mg (K:PySem.W.Frag):R2:=λx y H Q=>∃ d e,Da K H d x/\Da K H e y/\OkD d/\OkD e/\Q (.bl (!PyData.eqv d e)) H
theorem Ef (hu:X.A.units+64<cLine):OpR X (compareOp .Eq) (Mh X.K):=by
 intro pins s σ H x y v u Q I rx ry h
 obtain⟨d,e,h1,h2,o1,o2,q⟩:=h
 obtain⟨as,r1⟩:=Da.reads I h1 rx
 obtain⟨bs,r2⟩:=Da.reads I h2 ry
 exact SeqAt.compareEq_reads r1 r2 o1.1 o2.1 (by have:=o1.2;have:=o2.2;omega) ⟨.bl _,H,I,rfl,q⟩
theorem Ib (hu:X.A.units+64<cLine):OpR X (compareOp .NotEq) (Mg X.K):=by
 intro pins s σ H x y v u Q I rx ry h
 obtain⟨d,e,h1,h2,o1,o2,q⟩:=h
 obtain⟨as,r1⟩:=Da.reads I h1 rx
 obtain⟨bs,r2⟩:=Da.reads I h2 ry
 exact SeqAt.compareNe_reads r1 r2 o1.1 o2.1 (by have:=o1.2;have:=o2.2;omega) ⟨.bl _,H,I,rfl,q⟩
noncomputable def Ji (ds:List PyData):Prop:=PyData.canLayAll0 ds=true/\PyData.depthAll ds<=20
noncomputable def JT (K:PySem.W.Frag)(neg:Bool):R2:=λx y H Q=>∃ ds d,Da K H (.list ds) y/\Da K H d x/\Ji ds/\OkD d/\Q (.bl (if neg then !(ds.any λz=>PyData.eqv z d)else ds.any λz=>PyData.eqv z d)) H
theorem nV (hu:X.A.units+64<cLine):OpR X (compareOp .NotIn) (JT X.K true):=by
 intro pins s σ H x y v u Q I rx ry h
 obtain⟨ds,d,h1,h2,o1,o2,q⟩:=h
 obtain⟨as,r1⟩:=Da.reads I h1 ry
 obtain⟨bs,r2⟩:=Da.reads I h2 rx
 exact SeqAt.notIn_list_reads r1 r2 o1.1 o2.1 (by have:=o1.2;have:=o2.2;omega) ⟨.bl _,H,I,rfl,q⟩
end
theorem jd {α:Type}{f:α->PyData}(h:∀ x,(f x).canLay0=true):∀ l:List α,PyData.canLayAll0 (l.map f)=true
 |[]=>by simp[PyData.canLayAll0]
 |x::l=>by simp[PyData.canLayAll0,h x,jd h l]
theorem iY {α:Type}{f:α->PyData}{k:Nat}(h:∀ x,(f x).depth<=k):∀ l:List α,PyData.depthAll (l.map f)<=k
 |[]=>by simp[PyData.depthAll]
 |x::l=>by
  simp only[aZ,PyData.depthAll]
  exact Nat.max_le.mpr ⟨h x,iY h l⟩
noncomputable def dI (ns:List Int):PyData:=.list (ns.map .int)
noncomputable def dP (p:Int×Int):PyData:=.tuple [.int p.1,.int p.2]
noncomputable def dJ (js:List (Int×Int)):PyData:=.list (js.map dP)
noncomputable def dL (l:Int×List (Int×Int)):PyData:=.tuple [.int l.1,dJ l.2]
theorem ro (i:Int):OkD (.int i):=⟨rfl,by simp[PyData.depth]⟩
theorem uS (ns:List Int):OkD (dI ns):=⟨by simp only[dI,PyData.canLay0];exact jd (λ_=>rfl) ns,by
 simp only[dI,PyData.depth]
 have:=iY (f:=PyData.int) (k:=0) (λ_=>by simp[PyData.depth]) ns
 omega⟩
theorem Fp (p:Int×Int):(dP p).canLay0=true:=by simp[dP,PyData.canLay0,PyData.canLayAll0]
theorem GG (p:Int×Int):(dP p).depth<=1:=by simp[dP,PyData.depth,PyData.depthAll]
theorem BV (js:List (Int×Int)):(dJ js).depth<=2:=by simp only[dJ,PyData.depth];have:=iY GG js;omega
theorem J7 (js:List (Int×Int)):OkD (dJ js):=⟨by simp only[dJ,PyData.canLay0];exact jd Fp js,by have:=BV js;omega⟩
theorem BU (l:Int×List (Int×Int)):(dL l).depth<=3:=by
 simp only[dL,PyData.depth,PyData.depthAll]
 have:=BV l.2
 omega
theorem J6 (l:Int×List (Int×Int)):OkD (dL l):=⟨by simp only[dL,PyData.canLay0,PyData.canLayAll0,Bool.and_true,Bool.true_and];exact(J7 l.2).1,by have:=BU l;omega⟩
theorem E8 {d:PyData}(h:OkD d):PyData.eqv d d=true:=SeqAt.eqv_refl d h.1
theorem ym (ds:List PyData):PyData.eqv (.list ds) (.list [])=ds.isEmpty:=by
 cases ds<;>simp[PyData.eqv,PyData.eqvAll]
theorem Ge:OkD (.list []):=uS []
section
variable {X:Cx}
theorem Gr (its:List Value)(k:Nat)(y:Value):(its.toArray.extract 0 k).push y++its.toArray.extract k=(its.take k++y::its.drop k).toArray:=PySem.W.kl_ins_eq its k y
noncomputable def F3:V->List V->Hp->VK->Prop:=λx vs H Q=>∃ l xs i y,x = .ref l/\vs = [.int i,y]/\H l=some (.lst xs)/\0<=i/\i<=xs.length/\xs.length<sizeLine/\Q .non (upd H l (.lst (xs.take i.toNat++y::xs.drop i.toNat)))
theorem sq:MtM X "list.insert" F3:=by
 intro pins s σ H x vs v us Q I rx rv h
 obtain⟨l,xs,i,y,rfl,rfl,hH,h0,h1,hz,q⟩:=h
 cases rx
 obtain⟨ui,u,rfl,ri,ru⟩:=rv.two
 obtain⟨t,rfl⟩:=ri
 obtain⟨z,its,n,r,hl,e⟩:=I.ya hH
 have hs:its.toArray.size<=sizeLine:=by rw[aK];omega
 have hf:Builtin.List.listFitsIndex i=true:=by
  unfold Builtin.List.listFitsIndex
  have h63:(sizeLine:Nat)<2 ^ 62:=by rw[cy];decide
  simp only[dF,dq]
  constructor<;>omega
 refine eZ dQ ⟨_,e,rfl⟩ PySem.F.entry_list_insert (PySem.F.args_list_insert_3 _ _ _) (PySem.AutoSeq1.list_insert_list_int_val_1 l its.toArray n i t u (by simp[hf]) hs) ⟨e,?_⟩
 refine⟨.non,_,I.Gj (its':=its.take i.toNat++u::its.drop i.toNat) (ys:=xs.take i.toNat++y::xs.drop i.toNat) hH e ?_ ((r.take i.toNat).append (.cons ru (r.drop i.toNat))) ?_,rfl,q⟩
 ·have hk:(if i<0 then(i+(its.toArray.size:Int)).toNat else min i.toNat its.toArray.size)=i.toNat:=by
   rw[aG (by omega),aK]
   omega
  show(its.toArray.extract 0 (if i<0 then(i+(its.toArray.size:Int)).toNat else min i.toNat its.toArray.size)).push u++its.toArray.extract (if i<0 then(i+(its.toArray.size:Int)).toNat else min i.toNat its.toArray.size)=_
  rw[hk,Gr]
 ·rw[ak,aO,aM,bA]
  omega
end
noncomputable def srt (ns:List Int):List Int:=ns.mergeSort (λa b=>decide (a<=b))
theorem qN (ns:List Int):(srt ns).Perm ns:=List.mergeSort_perm ns _
theorem yH (ns:List Int):(srt ns).Pairwise (· <= ·):=by
 have h:=List.pairwise_mergeSort (le:=λa b:Int=>decide (a<=b)) (by intro a b c h1 h2;simp only[dq]at *;omega) (by intro a b;simp only[Bool.or_eq_true,dq];omega) ns
 exact h.imp (by intro a b h;simpa using h)
theorem Aj {a b:List Int}(hp:a.Perm b)(ha:a.Pairwise (· <= ·))(hb:b.Pairwise (· <= ·)):a=b:=PySem.W.ksm_same hp ha hb
theorem DC {a ns:List Int}(hp:a.Perm ns)(ha:a.Pairwise (· <= ·)):a=srt ns:=Aj (hp.trans (qN ns).symm) ha (yH ns)
theorem Co {a b:List Int}(hp:a.Perm b):srt a=srt b:=DC ((qN a).trans hp) (yH a)
theorem FX {ns:List Int}{x:Int} :x∈srt ns↔x∈ns:=(qN ns).mem_iff
theorem oq (ns:List Int):(srt ns).length=ns.length:=(qN ns).length_eq
section
variable {X:Cx}
theorem sZ:kG X (.builtin "sorted") (λxs H Q=>∃ a ns,xs = [.ref a]/\SqL X.K H a (ns.map V.int)/\ns.length<64/\∀ p,H p=none->Q (.ref p) (upd H p (.lst ((srt ns).map V.int)))):=by
 intro pins s σ H xs us Q I r h
 obtain⟨a,ns,rfl,hx,h64,q⟩:=h
 obtain⟨u,rfl,ru⟩:=vals1 r
 cases ru
 obtain⟨its,rv,p,hz⟩:=I.list hx
 have hlen:=rv.length
 rw[aa]at hlen
 refine sorted_ints p.isList (intsAre_of rv) (by omega) λout ns' h1 h2 h3=>?_
 obtain⟨e,he⟩:=sortedAll_at s.heap its out
 have e':ns'=srt ns:=DC h2 h3
 subst e'
 have vo:Vals ((srt ns).map V.int) out.toList:=pP h1
 refine⟨.ref (s.heap.objs.size+1),_,I.laid (t':=s.toks) (o:=.lst ((srt ns).map V.int)) (λb ob q=>sortedAll_old q) (Nat.le_succ _) ⟨?_,out.toList,e,vo,?_⟩,rfl,q _ (I.hok.fresh (Nat.le_succ _))⟩
 ·rw[aa,oq]
  rw[aa]at hz
  exact hz
 ·rw[he,Array.toArray_toList]
end
theorem Inv.rY {X:Cx}{pins:List (Addr×Obj)}{σ:St}{H:Hp}{s:Shared}{h':Heap}{t':Nat}{ch:List Addr}{xs:List V}{us:List Value}(I:Inv X pins σ H s)(hf:∀ b∈ch,lS X pins H b)
  (keep:∀ b o,b∉ch->s.heap.get? b=some o->h'.get? b=some o) (r:Vals xs us) (hz:xs.length<=sizeLine) (ht:h'.get? s.heap.objs.size=some {cls:=.type "tuple",data:=.seq us.toArray}):
  Inv X pins σ (upd H s.heap.objs.size (.tup xs)) {s with heap:=h',toks:=t'} :=by
 have hn:H s.heap.objs.size=none:=I.fresh
 have nch:∀ b u,H b=some u->b∉ch:=λb u q z=>by rw[(hf b z).1]at q;cases q
 refine I.step (g':=s.gens) (d':=s.drawn) (ch:=ch) (λb hb=>?_) (λb o _ _ hc q _=>keep b o hc q) (λb o _ _ hc q _=>⟨o.slots,keep b o hc q⟩) (λb o _ q n=>?_)
  (λb o hc q=>⟨o,keep b o hc q⟩) (λb ys q=>by rw[fK (fN q hn)];exact q) (λb o ys q=>by rw[fK (fN q hn)];exact q) (λb ps q=>⟨#[],by rw[fK (fN q hn),q];simp⟩) (λm hm=>?_) (λb u q=>?_) I.bare
 ·obtain⟨f0,f1,f2,f3,f4,f5⟩:=hf b hb
  exact⟨f3,f1,f4,f5⟩
 ·rw[fK (aL (aA q))];exact n
 ·obtain⟨o,es,ep,ho,r⟩:=hm
  exact⟨o,es,ep,keep _ o (λz=>(hf _ z).2.1 rfl) ho,r⟩
 ·by_cases hb:b=s.heap.objs.size
  ·subst hb
   rw[fE]at q
   cases q
   exact⟨hz,us,r,⟨_,ht,rfl,_,rfl⟩⟩
  ·rw[fK hb]at q
   refine(I.hok b u q).qh (λc v hc q'=>keep c v ?_ q') (λc z=>by rw[fK (fN z hn)];exact z) λc ys z=>by rw[fK (fN z hn)];exact z
   rcases hc with z |z
   ·rw[z];exact nch b u q
   ·exact nch c _ z
noncomputable def Ite (K:PySem.W.Frag)(a:Addr):It:=
 ⟨λi H=>∃ xs x,SqL K H a xs/\xs[i]? = some x,λi H x H'=>∃ p,H p=none/\x = .ref p/\∀ xs y,SqL K H a xs->xs[i]? = some y->H'=upd H p (.tup [.int i,y]),λi H=>∃ xs,SqL K H a xs/\xs.length<=i⟩
theorem Ci {P:Program}{w:World}{K:PySem.W.Frag}{es:List Expr}{x1:Nat}{pt:Pos}(a e it:Addr)(hne:e≠it):
  Turn P w K (.Tuple es x1 pt) (Ite K a) [e,it] e (λi h=>∃ old,IsEnum h e it i old/\h.IsListIter it a i) where
 mem:=by simp
 obj:=λi h st b hb=>by
  obtain⟨old,h1,h2⟩:=st
  rcases aE.mp hb with z |z
  ·subst z;exact⟨_,h1,λv z=>by cases z⟩
  ·have z:b=it:=by simpa using z
   subst z
   obtain⟨o,ho,c,d⟩:=h2
   exact⟨o,ho,λv z=>by rw[d]at z;cases z⟩
 keep:=λi h h' ⟨old,h1,h2⟩ k=>⟨old,k e (by simp) _ h1,h2.at λo q=>k it (by simp) o q⟩
 item:=by
  intro X hP hw hK hc i pins s σ H E I hf st hg
  subst hP hw hK
  obtain⟨old,h1,h2⟩:=st
  obtain⟨xs,x,hq,hx⟩:=hg
  obtain⟨its,rv,p,hz⟩:=I.list hq
  obtain⟨u,hu,ru⟩:=rv.get hx
  have lt1:e<s.heap.objs.size:=aA h1
  refine wpAny_pyNext_enum_item h1 h2 p.isList (x:=u) (by simpa using hu) hne λh' k1 k2 k3 k4 k5=>?_
  refine⟨_,rfl,?_⟩
  refine wpAny_letOwnedTupleGo_enum (s:={s with heap:=h',toks:=s.toks+1}) k1 λh'' m1 m2=>?_
  have keep:∀ b o,b∉ [e,it]->s.heap.get? b=some o->h''.get? b=some o:=λb o hb q=>m2.extBut b o (λz=>hb (by simp[z])) (k5 b o (λz=>hb (by simp[z])) (λz=>hb (by simp[z])) q)
  have ht:h''.get? s.heap.objs.size=some {cls:=.type "tuple",data:=.seq [Value.int i s.toks,u].toArray} :=m2.extBut _ _ (cW lt1) k3
  have J1:Inv X pins σ (upd H s.heap.objs.size (.tup [.int i,x])) {s with heap:=h'',toks:=s.toks+1} :=Inv.rY I hf keep (.cons ⟨_,rfl⟩ (.cons ru .nil)) (by show 2<=sizeLine;decide) ht
  have hn:H s.heap.objs.size=none:=I.fresh
  refine⟨.ref s.heap.objs.size,_,J1,rfl,⟨_,hn,rfl,λys y hy h=>?_⟩,⟨u,?_,?_⟩,λb hb=>?_⟩
  ·have e1:=I.nW hy hq
   subst e1
   rw[hx]at h
   cases h
   rfl
  ·have e1:((i+1:Nat):Int)=(i:Int)+1:=by omega
   rw[e1];exact m1
  ·exact k2.extBut m2.extBut (bI hne)
  ·obtain⟨o,q,_⟩:∃ o,s.heap.get? b=some o/\True:=by
    rcases aE.mp hb with z |z
    ·subst z;exact⟨_,h1,trivial⟩
    ·have z:b=it:=by simpa using z
     subst z
     obtain⟨o,ho,_⟩:=h2
     exact⟨o,ho,trivial⟩
   rw[fK (aL (aA q))]
   exact(hf b hb).1
 done:=by
  intro X hP hw hK hc i pins s σ H E I hf st hg
  subst hP hw hK
  obtain⟨old,h1,h2⟩:=st
  obtain⟨xs,hq,hx⟩:=hg
  obtain⟨its,rv,p,hz⟩:=I.list hq
  obtain⟨g0,g1,g2,g3,g4,g5⟩:=hf it (by simp)
  have hl:=rv.length
  exact wpAny_pyNext_enum_end (I.ok.hd hc) h1 h2 p.isList (by simp;omega) λh' eb=>⟨rfl,I.turned (t':=s.toks) (λb o hb e=>eb b o hb e) g0 g1 g3 g4 g5⟩
 self:=λ_ _ _ _ _ ⟨old,h1,h2⟩ h=>wpAny_pyIter_enum h1 h
section
variable {X:Cx}
noncomputable def Ko (K:PySem.W.Frag)(ta:TA):TI:=λσ H R=>ta σ H λvs H1=>∃ a,vs = [.ref a]/\(∃ xs,SqL K H1 a xs)/\R (Ite K a) H1
theorem Bw {a:Expr}{ta:TA}{p pos:Pos}{es:List Expr}{x1:Nat}{pt:Pos}(hg:Gl X "enumerate")(hm:X.mg "enumerate" = none)(ha:PA X [a] ta)(hs:starEach [a] X.env = [(false,eval a X.env)]:=by rfl):PI X (.Tuple es x1 pt) (.Call (.Name "enumerate" p) [a] [] pos) (Ko X.K ta):=by
 intro pins s σ H R I h
 refine Call_ (pf I hg hm boot_enumerate (bZ (thn (ha pos pins s σ H _ I h) λus s1 ⟨vs,H1,I1,r1,q1⟩=>?_) hs rfl))
 obtain⟨a,e,⟨xs,hq⟩,q⟩:=q1
 subst e
 obtain⟨u,rfl,ru⟩:=vals1 r1
 cases ru
 obtain⟨its,rv,pl,hz⟩:=I1.list hq
 refine call_enumerate_list pl.isList λh' k1 k2 k3 k4=>?_
 refine wpAny_pyIter_enum (s:={s1 with heap:=h'}) k1 ?_
 refine⟨s1.heap.objs.size+1,[s1.heap.objs.size+1,s1.heap.objs.size],_,_,H1,rfl,I1.kept (t':=s1.toks) k4,Ci a _ _ (Nat.succ_ne_self _),⟨.none,k1,k2⟩,λb hb=>?_,q⟩
 have hb':s1.heap.objs.size<=b:=by
  rcases aE.mp hb with z |z
  ·rw[z];exact Nat.le_succ _
  ·have z:b=s1.heap.objs.size:=by simpa using z
   rw[z];exact ar _
 exact I1.AW hb' (I1.hok.fresh hb')
end
theorem E6 {K:PySem.W.Frag}{a:Addr}{xs:List V}{g:TG}{tb:TS}{D:Ends}{σ:St}{H:Hp}(Pv:Nat->St->Hp->Prop)(h0:Pv 0 σ H)(hl:∀ i σ H,i<=xs.length->Pv i σ H->SqL K H a xs)
  (hs:∀ i x σ H p,xs[i]? = some x->Pv i σ H->H p=none->g (.ref p) σ (upd H p (.tup [.int i,x])) λσ2 H2=>tb {D with nx:=Pv (i+1),ct:=Pv (i+1),bk:=D.nx} σ2 H2) (hd:∀ σ H,Pv xs.length σ H->D.nx σ H):
  ∃ W:Nat->Nat->St->Hp->Prop,(∃ m,W 0 m σ H)/\∀ i m σ H,W i m σ H->
   ((Ite K a).stop i H/\D.nx σ H)\/((Ite K a).go i H/\∃ N:St->Hp->Prop,(∀ σ' H',N σ' H'->∃ m',m'<m/\W (i+1) m' σ' H')/\∀ x H',(Ite K a).yld i H x H'->g x σ H' λσ2 H2=>tb {D with nx:=N,ct:=N,bk:=D.nx} σ2 H2):=by
 refine⟨λi m σ H=>m=xs.length-i/\i<=xs.length/\Pv i σ H,⟨xs.length,by simp,aI _,h0⟩,?_⟩
 rintro i m σ H ⟨rfl,hi,p⟩
 have q:=hl i σ H hi p
 by_cases hlt:i<xs.length
 ·refine .inr ⟨⟨xs,xs[i],q,by simp[hlt]⟩,Pv (i+1),λσ' H' p'=>⟨xs.length-(i+1),by omega,rfl,hlt,p'⟩,λx H' y=>?_⟩
  obtain⟨pa,hp,e,y⟩:=y
  subst e
  have hx:xs[i]? = some xs[i]:=by simp[hlt]
  rw[y xs _ q hx]
  exact hs i _ σ H pa hx p hp
 ·have e:i=xs.length:=by omega
  subst e
  exact .inl ⟨⟨xs,q,ar _⟩,hd σ H p⟩
noncomputable def Itv (K:PySem.W.Frag)(a:Addr):It:=
 ⟨λi H=>∃ xs x,SqL K H a xs/\xs.reverse[i]? = some x,λi H x H'=>H'=H/\∀ xs,SqL K H a xs->xs.reverse[i]? = some x,λi H=>∃ xs,SqL K H a xs/\xs.length=i⟩
theorem Dy {P:Program}{w:World}{K:PySem.W.Frag}{tg:Expr}(a it:Addr)(n:Nat):Turn P w K tg ⟨λi H=>(Itv K a).go i H/\∃ xs,SqL K H a xs/\xs.length=n,(Itv K a).yld,λi H=>i=n⟩ [it] it (λi h=>i<=n/\h.IsRevIter it a ((n:Int)-1-(i:Int))) where
 mem:=by simp
 obj:=λi h st b hb=>by
  have e:b=it:=by simpa using hb
  subst e
  obtain⟨_,o,e,c,d⟩:=st
  exact⟨o,e,λv z=>by rw[d]at z;cases z⟩
 keep:=λi h h' st k=>⟨st.1,st.2.at λo e=>k it (by simp) o e⟩
 item:=by
  intro X hP hw hK hc i pins s σ H E I hf st hg
  subst hP hw hK
  obtain⟨⟨xs,x,hq,hx⟩,ys,hq2,hn⟩:=hg
  have e0:=I.nW hq2 hq
  subst e0
  obtain⟨its,rv,p,hz⟩:=I.list hq
  have hil:i<ys.length:=by have:=(af.mp hx).1;rwa [cR]at this
  have hx':ys[ys.length-1-i]? = some x:=by rw[List.getElem?_reverse hil]at hx;exact hx
  obtain⟨u,hu,ru⟩:=rv.get hx'
  obtain⟨f0,f1,f2,f3,f4,f5⟩:=hf it (by simp)
  have e1:(n:Int)-1-(i:Int)=((ys.length-1-i:Nat):Int):=by omega
  have st2:=st.2
  rw[e1]at st2
  refine wpAny_pyNext_rev_item st2 p.isList (x:=u) (by simpa using hu) λh' st' sb=>?_
  have I1:Inv X pins σ H {s with heap:=h'} :=I.turned (t':=s.toks) (λb o hb e=>(sb.2 b hb).trans e) f0 f1 f3 f4 f5
  have e2:((ys.length-1-i:Nat):Int)-1=(n:Int)-1-((i+1:Nat):Int):=by omega
  rw[e2]at st'
  obtain⟨o,e,c,d⟩:=id st'
  exact⟨u,rfl,EZ (s:={s with heap:=h'}) e c d (by decide) ⟨x,H,I1,ru,⟨rfl,λzs hy=>by rw[I.nW hy hq];exact hx⟩,⟨by omega,st'⟩,λb hb=>(hf b hb).1⟩⟩
 done:=by
  intro X hP hw hK hc i pins s σ H E I hf st hg
  subst hP hw hK
  have hg:i=n:=hg
  subst hg
  obtain⟨f0,f1,f2,f3,f4,f5⟩:=hf it (by simp)
  have e1:(i:Int)-1-(i:Int) = -1:=by omega
  have st2:=st.2
  rw[e1]at st2
  exact wpAny_pyNext_rev_end (I.ok.hd hc) st2 λh' eb=>⟨rfl,I.turned (t':=s.toks) (λb o hb e=>eb b o hb e) f0 f1 f3 f4 f5⟩
 self:=λ_ _ _ _ _ st h=>wpAny_pyIter_revIter st.2 h
section
variable {X:Cx}{tg:Expr}
noncomputable def O7 (K:PySem.W.Frag)(ta:TA):TI:=λσ H R=>ta σ H λvs H1=>∃ a xs,vs = [.ref a]/\SqL K H1 a xs/\R ⟨λi H=>(Itv K a).go i H/\∃ ys,SqL K H a ys/\ys.length=xs.length,(Itv K a).yld,λi H=>i=xs.length⟩ H1
theorem HV {a:Expr}{ta:TA}{p pos:Pos}(hg:Gl X "reversed")(hm:X.mg "reversed" = none)(ha:PA X [a] ta)(hs:starEach [a] X.env = [(false,eval a X.env)]:=by rfl):PI X tg (.Call (.Name "reversed" p) [a] [] pos) (O7 X.K ta):=by
 intro pins s σ H R I h
 refine Call_ (pf I hg hm boot_reversed (bZ (thn (ha pos pins s σ H _ I h) λus s1 ⟨vs,H1,I1,r1,q1⟩=>?_) hs rfl))
 obtain⟨a,xs,e,hq,q⟩:=q1
 subst e
 obtain⟨u,rfl,ru⟩:=vals1 r1
 cases ru
 obtain⟨its,rv,pl,hz⟩:=I1.list hq
 have hl:=rv.length
 refine call_reversed_list pl.isList ?_
 have hit:Heap.IsRevIter (s1.heap.push (revObj a ((its.toArray.size:Int)-1))) s1.heap.objs.size a (((xs.length:Nat):Int)-1-((0:Nat):Int)):=by
  refine⟨_,aR _ rfl,rfl,?_⟩
  have e1:((xs.length:Nat):Int)-1-((0:Nat):Int)=(its.toArray.size:Int)-1:=by rw[aK];omega
  rw[e1];rfl
 refine wpAny_pyIter_revIter (s:={s1 with heap:=s1.heap.push (revObj a ((its.toArray.size:Int)-1))}) hit ?_
 refine⟨s1.heap.objs.size,[s1.heap.objs.size],_,_,H1,rfl,I1.kept (t':=s1.toks) (λb o e=>ax _ e),Dy a _ xs.length,⟨aI _,hit⟩,λb hb=>?_,q⟩
 have e:b=s1.heap.objs.size:=by simpa using hb
 subst e
 exact I1.AW (ar _) (I1.hok.fresh (ar _))
end
structure Bl (mg:Str->Option Value):Prop where
 len:mg "len" = none
 range:mg "range" = none
 sorted:mg "sorted" = none
 enumerate:mg "enumerate" = none
 reversed:mg "reversed" = none
 min:mg "min" = none
 max:mg "max" = none
 list:mg "list" = none
 int:mg "int" = none
 isinstance:mg "isinstance" = none
structure Fn (K:PySem.W.Frag)(mg:Str->Option Value)(x:Str)(st:Stmt)(ps:List Str)(f:Addr)(fd:FuncData):Prop where
 F:Fun K x x st f fd
 m:mg x=some (.ref f)
 b:Binds K fd ps []
noncomputable def below (js:List (Int×Int))(e:Int):List Int:=(js.filter λp=>decide (p.2=e)).map (·.1)
noncomputable def above (js:List (Int×Int))(e:Int):List Int:=(js.filter λp=>decide (p.1=e)).map (·.2)
noncomputable def inc (js:List (Int×Int))(e:Int):Nat:=(below js e).length+(above js e).length
noncomputable def jn (js:List (Int×Int))(e:Int):List Int:=srt (below js e++above js e)
theorem Ki (js:List (Int×Int))(e:Int):srt (above js e++below js e)=jn js e:=Co List.perm_append_comm
structure gj (l:Int×List (Int×Int)):Prop where
 one:1<=l.1
 most:l.1<=40
 len:l.2.length<=80
 inc:∀ e,inc l.2 e<=60
 ends:∀ p∈l.2,0<=p.1/\p.1<=p.2/\p.2<2*l.1
theorem inc_le (js:List (Int×Int))(e:Int):inc js e<=2*js.length:=by
 unfold inc below above
 rw[aa,aa]
 have h1:=bS (λp:Int×Int=>decide (p.2=e)) js
 have h2:=bS (λp:Int×Int=>decide (p.1=e)) js
 omega
noncomputable def yx (H:Hp)(ns:List Int)(Q:VK):Prop:=∀ (p:Addr) (H':Hp),fL H H'->H p=none->H' p=some (.lst (ns.map V.int))->Q (.ref p) H'
theorem fL.upd {H H':Hp}{l:Addr}{o:HO}(s:fL H H')(hn:H l=none):fL H (upd H' l o):=λb u e=>by rw[fK (fN e hn)];exact s b u e
theorem ij {K:PySem.W.Frag}{H:Hp}{ns:List Int}{v:V} :Da K H (dI ns) v↔∃ a,v = .ref a/\SqL K H a (ns.map V.int):=by
 unfold dI
 refine Iff.trans iE ?_
 constructor
 ·rintro⟨a,vs,rfl,h,q⟩
  rw[nY.mp q]at h
  exact⟨a,rfl,h⟩
 ·rintro⟨a,rfl,h⟩
  exact⟨a,_,rfl,h,nY.mpr rfl⟩
theorem jc {K:PySem.W.Frag}{H:Hp}{ns:List Int}{p:Addr}(h:H p=some (.lst (ns.map V.int))):Da K H (dI ns) (.ref p):=ij.mpr ⟨p,rfl,SqL.of h⟩
theorem oF {K:PySem.W.Frag}{H:Hp}{l:Int×List (Int×Int)}{v:V}(h:Da K H (dL l) v):∃ a b,v = .ref a/\SqT K H a [.int l.1,.ref b]/\∃ vs,SqL K H b vs/\Das K H (l.2.map dP) vs:=by
 unfold dL at h
 obtain⟨a,vs,rfl,ht,q⟩:=ie.mp h
 obtain⟨v1,r,rfl,h1,q⟩:=gm.mp q
 obtain⟨v2,r,rfl,h2,q⟩:=gm.mp q
 cases gN.mp q
 cases iB.mp h1
 unfold dJ at h2
 obtain⟨b,us,rfl,hl,q⟩:=iE.mp h2
 exact⟨a,b,rfl,ht,us,hl,q⟩
theorem nZ {K:PySem.W.Frag}{H:Hp}{js:List (Int×Int)}{vs:List V}{i:Nat}{x:V}(h:Das K H (js.map dP) vs)(e:vs[i]? = some x):∃ a p,js[i]? = some p/\x = .ref a/\SqT K H a [.int p.1,.int p.2]:=by
 obtain⟨d,e1,hd⟩:=Dgs.get h e
 rw[ah]at e1
 cases q:js[i]? with
 |none=>rw[q]at e1;cases e1
 |some p=>
  rw[q]at e1
  cases e1
  unfold dP at hd
  obtain⟨a,us,rfl,ht,q⟩:=ie.mp hd
  obtain⟨v1,r,rfl,h1,q⟩:=gm.mp q
  obtain⟨v2,r,rfl,h2,q⟩:=gm.mp q
  cases gN.mp q
  cases iB.mp h1
  cases iB.mp h2
  exact⟨a,p,rfl,rfl,ht⟩
theorem uR (ms:List Int):Ji (ms.map PyData.int):=⟨jd (λ_=>rfl) ms,by have:=iY (f:=PyData.int) (k:=0) (λ_=>by simp[PyData.depth]) ms;omega⟩
theorem zY (ms:List Int)(x:Int):((ms.map PyData.int).any λz=>PyData.eqv z (.int x))=decide (x∈ms):=by
 rw[List.any_map,bN,List.any_eq_true,cw]
 constructor
 ·rintro⟨y,hy,e⟩
  have e':PyData.eqv (.int y) (.int x)=true:=e
  simp only[PyData.eqv,fc]at e'
  rw[<-e'];exact hy
 ·intro h
  exact⟨x,h,by show PyData.eqv (.int x) (.int x)=true;simp[PyData.eqv]⟩
theorem iX {i:Nat}{x:V}{σ:St}{H:Hp}{te:TE}{P1:VK}{P0:Hp->Prop}(h:te (σ.set i (some x)) H P1):oN i x σ H (λσ2 H2=>Ag σ2 H2 λb H3=>if b=true then te σ2 H3 P1 else P0 H3):=nC (A:=te (σ.set i (some x)) H P1) (B:=P0 H) h
theorem kU {α:Type}(xs:List α):(xs.filter λ_=>true)=xs:=by simp
section
variable {X:Cx}{K:PySem.W.Frag}
theorem uJ (hK:X.K=K)(hu:X.A.units+64<cLine):OpR X (compareOp .NotIn) (JT K true):=hK ▸ nV hu
theorem EN (hK:X.K=K):IxR X (JR K):=hK ▸ ig
theorem BM (hK:X.K=K):IxR X (JQ K):=hK ▸ i7
end
structure JS (J:It)(n:Nat)(H1:Hp)(it:Nat->V->Prop):Prop where
 go:∀ i H,fL H1 H->i<n->J.go i H
 yld:∀ i H x H',fL H1 H->i<n->J.yld i H x H'->H'=H/\it i x
 stop:∀ H,fL H1 H->J.stop n H
theorem gK {K:PySem.W.Frag}{a:Addr}{xs:List V}{H1:Hp}(hx:SqL K H1 a xs):JS (Itl K a) xs.length H1 (λi x=>xs[i]? = some x):=
 ⟨λi H s hi=>⟨xs,xs[i],s.seq hx,by simp⟩,λi H x H' s hi y=>⟨y.1,y.2 xs (s.seq hx)⟩,λH s=>⟨xs,s.seq hx,ar _⟩⟩
theorem Iz {K:PySem.W.Frag}{a:Addr}{xs:List V}{H1:Hp}(hx:SqL K H1 a xs):JS ⟨λi H=>(Itv K a).go i H/\∃ ys,SqL K H a ys/\ys.length=xs.length,(Itv K a).yld,λi H=>i=xs.length⟩ xs.length H1 (λi x=>xs.reverse[i]? = some x):=
 ⟨λi H s hi=>⟨⟨xs,xs.reverse[i]'(by rw[cR];exact hi),s.seq hx,ag _⟩,xs,s.seq hx,rfl⟩,λi H x H' s hi y=>⟨y.1,y.2 xs (s.seq hx)⟩,λH s=>rfl⟩
theorem EF {α:Type}{J:It}{n:Nat}{it:Nat->V->Prop}{l:Addr}{g:TG}{tt:TT}{te:TE}{cap:List (Option Nat)}{σ:St}{Q:VK}{H1:Hp}(S:JS J n H1 it)(ds:List α)(p:α->Bool)(f:α->V)(hn:H1 l=none)(hlen:n=ds.length)(hz:n<sizeLine)
  (hs:∀ (i:Nat) x d H,it i x->ds[i]? = some d->fL H1 H->∀ (P1:VK) (P0:Hp->Prop),(p d=true->P1 (f d) H)->(p d=false->P0 H)->
   g x (iF cap σ) H λσ2 H2=>tt σ2 H2 λb H3=>if b=true then te σ2 H3 P1 else P0 H3)
  (hq:Q (.ref l) (upd H1 l (.lst ((ds.filter p).map f)))):LcW J g tt te cap σ Q l H1:=by
 refine⟨λi m acc H=>m=n-i/\i<=n/\acc=((ds.take i).filter p).map f/\H=upd H1 l (.lst acc),⟨n,by simp,aI _,rfl,rfl⟩,?_⟩
 rintro i m acc H ⟨rfl,hi,e1,e2⟩
 have sm:fL H1 H:=by rw[e2];exact fF hn
 by_cases hlt:i<n
 ·refine .inr ⟨S.go i H sm hlt,λvZ H'=>vZ=((ds.take (i+1)).filter p).map f/\H'=upd H1 l (.lst vZ),λvZ H' ⟨p1,p2⟩=>⟨n-(i+1),by omega,rfl,hlt,p1,p2⟩,λx H' y0=>?_⟩
  obtain⟨e,y⟩:=S.yld i H x H' sm hlt y0
  clear y0
  subst e
  have hd:ds[i]? = some (ds[i]'(by omega)):=by simp
  generalize ds[i]'(by omega)=d at hd
  have step:((ds.take (i+1)).filter p).map f=acc++(if p d=true then[f d]else[]):=by
   rw[take_succ_filter p ds i d hd,av,e1]
   cases p d<;>rfl
  refine hs i x d H' y hd sm _ _ (λhp=>?_) (λhp=>?_)
  ·refine⟨by rw[e2,fE],?_,?_,?_⟩
   ·have h1:acc.length<=i:=by
     rw[e1,aa]
     exact bw (bS _ _) (by rw[aM];omega)
    omega
   ·rw[step,hp];rfl
   ·rw[e2,qK]
  ·refine⟨?_,e2⟩
   rw[step,hp,aG aB,dS]
 ·have e:i=n:=by omega
  subst e
  refine .inl ⟨S.stop H sm,?_⟩
  rw[hlen,aX]at e1
  rw[e2,e1]
  exact hq
noncomputable abbrev Mv:=(Str×Int)×List Int
noncomputable def dMv (m:Mv):PyData:=.tuple [.tuple [.str m.1.1,.int m.1.2],dI m.2]
noncomputable def fr (l:Int×List (Int×Int))(ns:List Int)(e:Int):List Int:=(jn l.2 e).filter λt=> !decide (t/2∈ns.map (· / 2))
noncomputable def onM (ns:List Int)(e:Int):Mv:=(("on",e),ns.drop 1 ++ [e])
noncomputable def vC (ns:List Int)(e:Int):Mv:=(("back",e),oth e::ns.dropLast)
noncomputable def mvs (l:Int×List (Int×Int))(ns:List Int):List Mv:=(fr l ns (oth (ns.getLastD 0))).map (onM ns)++(fr l ns (ns.headD 0)).map (vC ns)
noncomputable def Lf (H H2:Hp)(t:Addr):Addr->List V->Prop:=λa us=>H2 a=some (.lst us)/\H a=none/\a≠t
theorem lX {K:PySem.W.Frag}{H:Hp}{t b:Addr}{vs xs:List V}{o:HO}(ht:H t=some (.lst vs))(h:SqT K H b xs):SqT K (upd H t o) b xs:=by
 rcases h with(h |⟨o,h⟩)|h
 ·exact .inl (.inl (by rw[fK (gy h ht (by intro z;cases z))];exact h))
 ·exact .inl (.inr ⟨o,by rw[fK (gy h ht (by intro z;cases z))];exact h⟩)
 ·exact .inr h
theorem Dgs.grow {K:PySem.W.Frag}{H H2 H5:Hp}{t:Addr}{o:HO}{vs:List V}{ds:List PyData}{us:List V}(D:Dgs (Lf H H2 t) (SqT K H2) ds us)(S5:fL H2 H5)(ht:H5 t=some (.lst vs)):
  Dgs (Lf H (upd H5 t o) t) (SqT K (upd H5 t o)) ds us:=
 Dgs.mono (λa us ⟨h1,h2,h3⟩=>⟨by rw[fK h3];exact S5 _ _ h1,h2,h3⟩) (λa us h=>lX ht (gx S5 h)) D
theorem pV {K:PySem.W.Frag}{H H2 H5:Hp}{t p1 p4 p5:Addr}{vs:List V}{ms:List Mv}{w:Str}{e:Int}{xs:List Int}(S:fL H H2)(hn:H t=none)(ht:H2 t=some (.lst vs))(D:Dgs (Lf H H2 t) (SqT K H2) (ms.map dMv) vs)
  (S5:fL H2 H5) (h1:H5 p1=some (.tup [.str w,.int e])) (n4:H2 p4=none) (h4:H5 p4=some (.lst (xs.map V.int))) (h5:H5 p5=some (.tup [.ref p1,.ref p4])):
  fL H (upd H5 t (.lst (vs ++ [.ref p5])))/\(upd H5 t (.lst (vs ++ [.ref p5]))) t=some (.lst (vs ++ [.ref p5]))/\
   Dgs (Lf H (upd H5 t (.lst (vs ++ [.ref p5]))) t) (SqT K (upd H5 t (.lst (vs ++ [.ref p5])))) ((ms ++ [((w,e),xs)]).map dMv) (vs ++ [.ref p5]):=by
 have ht5:=S5 _ _ ht
 have q4:p4≠t:=(fN ht n4).symm
 refine⟨fL.upd (S.trans S5) hn,fE,?_⟩
 rw[av]
 refine Dgs.append (D.grow S5 ht5) (Dgs.one ?_)
 refine ie.mpr ⟨p5,_,rfl,lX ht5 (SqT.of h5),Dgs.two ?_ ?_⟩
 ·exact ie.mpr ⟨p1,_,rfl,lX ht5 (SqT.of h1),Dgs.two (A0.mpr rfl) (iB.mpr rfl)⟩
 ·exact iE.mpr ⟨p4,_,rfl,⟨by rw[fK q4];exact h4,fL.free S n4,q4⟩,nY.mpr rfl⟩
noncomputable def FE (K:PySem.W.Frag)(H:Hp)(ms:List Mv)(Q:VK):Prop:=∀ (p:Addr) (vs:List V) (H':Hp),fL H H'->H p=none->H' p=some (.lst vs)->Dgs (Lf H H' p) (SqT K H') (ms.map dMv) vs->Q (.ref p) H'
theorem rH (ns:List Int):oQ (ns.map V.int) (some 1) none=(ns.drop 1).map V.int:=by
 unfold oQ
 rw[HT.qW]
 have e:HT.sIx (ns.map V.int).length 0 (some 1)=min 1 (ns.map V.int).length:=HT.Bs _ _ 1
 rw[e,aa,eI]
 cases ns with
 |nil=>rfl
 |cons a r=>
  have e1:min 1 (a::r).length=1:=by simp
  rw[e1]
  simp
  exact cj (by simp)
theorem vy (ns:List Int):oQ (ns.map V.int) none (some (-1))=ns.dropLast.map V.int:=by
 unfold oQ
 have e:HT.sIx (ns.map V.int).length (ns.map V.int).length (some (-1))=ns.length-1:=by
  have h:=HT.BZ (-1) (ns.map V.int).length (ns.map V.int).length
  rw[aa]at h ⊢
  rw[aQ (by decide)]at h
  omega
 rw[e,HT.qW,List.drop_zero,Nat.sub_zero,<-eG,cH]
theorem yt {ns:List Int}(h:ns≠ []):atI (ns.map V.int) (-1)=some (V.int (ns.getLastD 0)):=by
 obtain⟨r,x,rfl⟩:∃ r x,ns=r ++ [x]:=⟨ns.dropLast,ns.getLast h,(List.dropLast_concat_getLast h).symm⟩
 rw[av]
 show atI (r.map V.int ++ [V.int x]) (-1)=_
 rw[Ft]
 have e:(r ++ [x]).getLastD 0=x:=by simp[fm]
 rw[e]
theorem zW {ns:List Int}(h:ns≠ []):atI (ns.map V.int) 0=some (V.int (ns.headD 0)):=by
 cases ns with
 |nil=>exact absurd rfl h
 |cons a r=>exact p7 (j:=0) rfl
noncomputable abbrev NoL:Addr->List V->Prop:=λ_ _=>False
noncomputable abbrev Ps (K:PySem.W.Frag)(H:Hp)(js:List (Int×Int))(vs:List V):Prop:=Dgs NoL (SqT K H) (js.map dP) vs
theorem Ps.same {K:PySem.W.Frag}{H H':Hp}{js:List (Int×Int)}{vs:List V}(D:Ps K H js vs)(S:fL H H'):Ps K H' js vs:=Dgs.mono (λ_ _ h=>h) (λ_ _ h=>gx S h) D
theorem Ps.Hw {K:PySem.W.Frag}{H:Hp}{js:List (Int×Int)}{vs us:List V}{t:Addr}{o:HO}(D:Ps K H js vs)(ht:H t=some (.lst us)):Ps K (upd H t o) js vs:=Dgs.mono (λ_ _ h=>h) (λ_ _ h=>lX ht h) D
theorem Ps.das {K:PySem.W.Frag}{H:Hp}{js:List (Int×Int)}{vs:List V}(D:Ps K H js vs):Das K H (js.map dP) vs:=Dgs.mono (λ_ _ h=>h.elim) (λ_ _ h=>h) D
theorem Ps.da {K:PySem.W.Frag}{H:Hp}{js:List (Int×Int)}{vs:List V}{t:Addr}(D:Ps K H js vs)(ht:H t=some (.lst vs)):Da K H (dJ js) (.ref t):=iE.mpr ⟨t,vs,rfl,SqL.of ht,D.das⟩
theorem Ps.len {K:PySem.W.Frag}{H:Hp}{js:List (Int×Int)}{vs:List V}(D:Ps K H js vs):vs.length=js.length:=by rw[D.length,aa]
theorem By {K:PySem.W.Frag}{H:Hp}{p:Addr}{x:Int×Int}(h:H p=some (.tup [.int x.1,.int x.2])):Dg NoL (SqT K H) (dP x) (.ref p):=ie.mpr ⟨p,_,rfl,SqT.of h,Dgs.two (iB.mpr rfl) (iB.mpr rfl)⟩
theorem Ps.push {K:PySem.W.Frag}{H:Hp}{js:List (Int×Int)}{vs:List V}{t p:Addr}{x:Int×Int}{o:HO}(D:Ps K H js vs)(ht:H t=some (.lst vs))(hp:H p=some (.tup [.int x.1,.int x.2])):Ps K (upd H t o) (js ++ [x]) (vs ++ [.ref p]):=by
 show Dgs _ _ ((js ++ [x]).map dP) _
 rw[av]
 exact(D.Hw ht).append (.one (Dg.mono (λ_ _ h=>h) (λ_ _ h=>lX ht h) (By hp)))
theorem Ps.ins {K:PySem.W.Frag}{H:Hp}{js:List (Int×Int)}{vs:List V}{t p:Addr}{x:Int×Int}{o:HO}(i:Nat)(D:Ps K H js vs)(ht:H t=some (.lst vs))(hp:H p=some (.tup [.int x.1,.int x.2])):Ps K (upd H t o) (js.take i++x::js.drop i) (vs.take i ++ .ref p::vs.drop i):=by
 show Dgs _ _ ((js.take i++x::js.drop i).map dP) _
 rw[av,aZ,eG,eI]
 exact Dgs.insert i (D.Hw ht) (Dg.mono (λ_ _ h=>h) (λ_ _ h=>lX ht h) (By hp))
theorem pZ {K:PySem.W.Frag}{H:Hp}{l:Int×List (Int×Int)}{p t:Addr}(h:H p=some (.tup [.int l.1,.ref t]))(hd:Da K H (dJ l.2) (.ref t)):Da K H (dL l) (.ref p):=ie.mpr ⟨p,_,rfl,SqT.of h,Dgs.two (iB.mpr rfl) hd⟩
theorem qY {α:Type}(l:List α)(i:Nat)(x:α):(l.take i++x::l.drop i).Perm (x::l):=by
 have h:=List.perm_middle (a:=x) (l₁:=l.take i) (l₂:=l.drop i)
 rw[cG]at h
 exact h
theorem EB (i j:Int):(if j<i then j else i)=min i j:=by omega
theorem EC (i j:Int):(if j>i then j else i)=max i j:=by omega
theorem yu {ns:List Int}{i:Int}(h0:0<=i)(h1:i<ns.length):∃ x,ns[i.toNat]? = some x/\x∈ns/\atI (ns.map V.int) i=some (V.int x):=by
 have hlt:i.toNat<ns.length:=by omega
 refine⟨ns[i.toNat],by simp,fB _,?_⟩
 have h:=p7 (xs:=ns.map V.int) (j:=i.toNat) (v:=V.int ns[i.toNat]) (by rw[ah];simp)
 have e1:((i.toNat:Nat):Int)=i:=by omega
 rw[e1]at h
 exact h
end TL
namespace L2
open PySem PySem.Spec PySem.Calls PyProof.Rows PySem.W
variable {Q:Unit->Shared->Prop}
section
variable {prog:Program}{w:World}{A:Around}{E:Value->Shared->Prop}{s:Shared}{K:Frag}{a C:Addr}{o:Obj}
theorem xty {M:Model}{h:Heap}(hx:h.get? a=some o)(hc:o.cls = .ref C):Looks M h (typeOf (.ref a)) (.ref C):=hc ▸ (Looks.ld hx).andThen .now
open Builtin Builtin.ObjectAttr Builtin.Getset_descriptor in
theorem FH {R:Result->Shared->Prop}{tp:Value}(X:K.In s.heap)(hx:s.heap.get? a=some o)(hc:o.cls = .ref C)(hm:mroIn K C (.type "object")=some true)
  (h:R (.ok (.ret (.ref C))) s):codeAny (model prog w) A (.call (.builtin "getset_descriptor.__get__") ⟨[.builtin "object.__class__",.ref a,tp],[]⟩) R s:=by
 obtain⟨hh,g,dr,t,os⟩:=s
 have L0:=xty (M:=model prog w) hx hc
 have L1:=looks_mroIn (M:=model prog w) X hm
 refine codeAny_call_builtin KF.slot_gs.plain KF.entry_gs (KF.slot_gs.check _ _ _ _ _ _ _ _ KF.type_class (KF.args_gs _ _ _) ?_)
 unfold Builtin.«getset_descriptor.__get__» descrGet
 rw[dga_obj]
 refine ae (aj ?_)
 unfold descrGetter descrCheckInstance descrNameAndClass isInstance
 simp only[KF.owner_class]
 repeat lk
 refine⟨Code.quiet_builtin _ (by decide +kernel),codeAny_builtin KF.entry_class ?_⟩
 unfold Builtin.«object.__class__» shownTypeOf
 repeat lk
 exact h
theorem B8 {tk:Tok}{Q:PySem.Fin->Shared->Prop}(X:K.In s.heap)(hx:s.heap.get? a=some o)(hc:o.cls = .ref C)(hm:mroIn K C (.type "object")=some true)
  (ha:findIn K (.ref C) "__class__" = some (some (.builtin "object.__class__"))) (hq:Q (.done (.ret (.ref C))) s):
  wpAny (model prog w) A (Builtin.«object.__getattribute__» ⟨[.ref a,.str "__class__" tk],[]⟩) Q E s:=by
 obtain⟨h,g,d,t,os⟩:=s
 have hT5:(⟨h,g,d,t,os⟩:Shared).TypeIs (.builtin "object.__class__") "getset_descriptor" :=F.typeOf_object_class
 have L0:=xty (M:=model prog w) hx hc
 have L1:=looks_findIn (M:=model prog w) X ha
 have f5:=F.typeOf_object_class
 have f6:=F.slot_gs_get.lookup
 have f7:=F.slot_gs_set.lookup
 repeat (any_goals (first |assumption |with_reducible refine L0.at ?_ |with_reducible refine L1.at ?_ |(with_reducible refine wpAny_loadPart_at hx ?_;rw[hc])|wp_step))
 refine FH (K:=K) X hx hc hm ?_
 repeat (any_goals (first |assumption |wp_step))
theorem B9 {M:Model}{Hb:Value}(X:K.In s.heap)(hx:s.heap.get? a=some o)(hc:o.cls = .ref C)(hb:mroIn K C (.type "BaseException")=some true)(hq:Q () s):
  wpAny M A (checkBuiltinCall "BaseException.__getattribute__" ⟨[.ref a,Hb],[]⟩) Q E s:=by
 obtain⟨h,g,d,t,os⟩:=s
 have hk:builtinKind "BaseException.__getattribute__" = some .slot:=by decide +kernel
 have IH:splitId "BaseException.__getattribute__" = some ("BaseException","__getattribute__"):=by decide +kernel
 have ha:=F.args_bexc_ga (.ref a) Hb
 have L0:=xty (M:=M) hx hc
 have L1:=looks_mroIn (M:=M) X hb
 simp only[checkBuiltinCall,hk,IH]
 refine ae ?_
 ·unfold isInstance
  repeat (first |with_reducible refine L0.at ?_ |with_reducible refine L1.at ?_ |wp_step)
  exact hq
theorem Dp {tk:Tok}{R:Result->Shared->Prop}(X:K.In s.heap)(hx:s.heap.get? a=some o)(hc:o.cls = .ref C)(hm:mroIn K C (.type "object")=some true)(hb:mroIn K C (.type "BaseException")=some true)
  (ha:findIn K (.ref C) "__class__" = some (some (.builtin "object.__class__"))) (hq:R (.ok (.ret (.ref C))) s):
  codeAny (model prog w) A (.call (.builtin "BaseException.__getattribute__") ⟨[.ref a,.str "__class__" tk],[]⟩) R s:=
 codeAny_call_builtin (by decide +kernel) F.entry_bexc_ga (B9 X hx hc hb (B8 X hx hc hm ha hq))
theorem Hu {tk:Tok}{Q:Value->Shared->Prop}(X:K.In s.heap)(hx:s.heap.get? a=some o)(hc:o.cls = .ref C)(hm:mroIn K C (.type "object")=some true)(hb:mroIn K C (.type "BaseException")=some true)
  (ha:findIn K (.ref C) "__class__" = some (some (.builtin "object.__class__"))) (hg:findIn K (.ref C) "__getattribute__" = some (some (.builtin "BaseException.__getattribute__"))) (hn:findIn K (.ref C) "__getattr__" = some none)
  (hq:Q (.ref C) s):wpAny (model prog w) A (getAttrBy (.ref a) (.str "__class__" tk) false) Q E s:=by
 have X':=X
 have hx':=hx
 obtain⟨h,g,d,t,os⟩:=s
 have f3:=PySem.F.attr_ValueError.ga.bind (.ref a)
 have hx2:(Value.builtin "BaseException.__getattribute__" == Value.builtin "object.__getattribute__")=false:=by decide +kernel
 have hx1:(onTheHeap (Value.ref C)&&Value.builtin "BaseException.__getattribute__" == Value.builtin "object.__getattribute__")=false:=by rw[hx2];rfl
 have L0:=xty (M:=model prog w) hx hc
 have L1:=looks_findIn (M:=model prog w) X hg
 have L2:=looks_findIn (M:=model prog w) X hn
 repeat (any_goals (first |assumption |with_reducible refine L0.at ?_ |with_reducible refine L1.at ?_ |with_reducible refine L2.at ?_ |wp_step))
 refine Dp (K:=K) X' hx' hc hm hb ha ?_
 repeat (any_goals (first |assumption |wp_step))
theorem Dq {Q:Option Value->Shared->Prop}(X:K.In s.heap)(hx:s.heap.get? a=some o)(hc:o.cls = .ref C)(hm:mroIn K C (.type "object")=some true)(hb:mroIn K C (.type "BaseException")=some true)
  (ha:findIn K (.ref C) "__class__" = some (some (.builtin "object.__class__"))) (hg:findIn K (.ref C) "__getattribute__" = some (some (.builtin "BaseException.__getattribute__"))) (hn:findIn K (.ref C) "__getattr__" = some none)
  (hq:Q (some (.ref C)) {s with toks:=s.toks+1}):wpAny (model prog w) A (getAttr? (.ref a) "__class__") Q E s:=by
 have X':=X
 have hx':=hx
 obtain⟨h,g,d,t,os⟩:=s
 unfold getAttr? getAttrBy?
 repeat (any_goals (first |assumption |with_reducible apply Hu (K:=K) (s:=⟨h,g,d,t+1,os⟩) X' hx' hc hm hb ha hg hn |wp_step))
structure ExC (K:Frag)(C:Addr):Prop where
 obj:mroIn K C (.type "object")=some true
 bex:mroIn K C (.type "BaseException")=some true
 cls:findIn K (.ref C) "__class__" = some (some (.builtin "object.__class__"))
 ga:findIn K (.ref C) "__getattribute__" = some (some (.builtin "BaseException.__getattribute__"))
 gn:findIn K (.ref C) "__getattr__" = some none
 isc:(clsIn K C).isSome=true
noncomputable def XAt (a:Addr)(C:Addr)(h:Heap):Prop:=∃ o,h.get? a=some o/\o.cls = .ref C
theorem EL (e:ExC K C):KitX K (.ref a) (.ref C) (XAt a C) where
 ty:=λ_ _ _ ⟨_,h1,h2⟩=>xty h1 h2
 it:=λ_ _ X _=>by
  have hC:=e.isc
  unfold clsIn at hC
  split at hC
  ·rename_i c' d' cd' sl' ho
   intro A' Q' E' s' k q
   unfold isType loadHead
   exact ae (wpAny_loadPart (k _ _ (X _ _ ho)) (aj q))
  ·cases hC
 ne:=λh tp dd its n sl X htp=>by
  have hC:=e.isc
  refine Bool.eq_false_iff.mpr λq=>?_
  have e':C=tp:=Value.ref.inj (fc.mp q)
  subst e'
  unfold clsIn at hC
  split at hC
  ·rename_i c' d' cd' sl' ho
   have z:=(X _ _ ho).symm.trans htp
   cases z
  ·cases hC
 ca:=λX ⟨_,h1,h2⟩ k=>Dq X h1 h2 e.obj e.bex e.cls e.ga e.gn k
end
section
variable {P:Program}{w:World}{H H1:Hp}{h:Heap}{a:Addr}{o:HO}
theorem iR.some (x:iR P w H h a o):∃ u,h.get? a=Option.some u:=by
 cases o with
 |lst xs=>obtain⟨_,_,_,_,e⟩:=x;exact⟨_,e⟩
 |tup xs=>obtain⟨_,_,_,p⟩:=x;obtain⟨u,e,_⟩:=p;exact⟨u,e⟩
 |dK kvs=>obtain⟨_,_,_,_,o,_,_,e,_⟩:=x;exact⟨_,e⟩
 |dT kvs=>obtain⟨_,_,_,_,o,_,_,e,_⟩:=x;exact⟨_,e⟩
 |set S n=>obtain⟨o,_,_,_,e,_⟩:=x;exact⟨_,e⟩
 |ins C dx fs=>obtain⟨_,_,_,e,_⟩:=x;exact⟨_,e⟩
 |own y=>obtain⟨_,e⟩:=x;exact⟨_,e⟩
 |xd fs=>obtain⟨_,⟨_,_,_,e,_⟩,_⟩:=x;exact⟨_,e⟩
 |rng lo hi=>obtain⟨_,_,_,e⟩:=x;exact⟨_,e⟩
 |frz ob u=>obtain⟨e,_⟩:=x;exact⟨_,e⟩
 |tbl ps=>exact⟨_,(show h.get? a=Option.some _ from x)⟩
 |met f y=>exact⟨_,(show h.get? a=Option.some _ from x)⟩
 |ext φ=>obtain⟨_,⟨_,e⟩,_⟩:=x;exact⟨_,e⟩
theorem HOk.none_of (x:HOk P w H h)(e:h.get? a=Option.none):H a=Option.none:=by
 cases q:H a with
 |none=>rfl
 |some u=>obtain⟨v,z⟩:=(x a u q).some;rw[e]at z;cases z
end
structure Fl0 (P:Program)(w:World)(base:Heap)(l:List Env)(H H1:Hp)(h0 B h:Heap):Prop where
 bas:base.StaysIn B
 hok:HOk P w H1 B
 kp:∀ b o,h0.get? b=some o->H b=none->b∉frs l->B.get? b=some o
 thr:∀ b o,h0.get? b=some o->b∉frs l->∃ o',B.get? b=some o'
 un:Un (frs l) [] H H1 h0 h
theorem Fl0.step {P:Program}{w:World}{base:Heap}{l:List Env}{H H1:Hp}{h0 B h h':Heap}(x:Fl0 P w base l H H1 h0 B h)(st:B.StaysIn h')(ff:h.FunFrames B l)(ff':h'.FunFrames B l)(sm:h.UpToSlots h'):
  Fl0 P w base l H H1 h0 B h':=by
 refine⟨x.bas,x.hok,x.kp,x.thr,⟨λb o q n hb _=>st b o (x.kp b o q n hb),λb o q n hb _=>?_,x.un.free,λb o q _=>?_,x.un.kH,x.un.oP,x.un.qv⟩⟩
 ·obtain⟨sl,e⟩:=x.un.slot b o q n hb (by simp)
  obtain⟨_,o2,e2,nf⟩:=ff.mem hb
  rw[e]at e2;cases e2
  obtain⟨sl',e'⟩:=sm b _ e nf
  exact⟨sl',e'⟩
 ·by_cases hb:b∈frs l
  ·obtain⟨_,o2,e2,_⟩:=ff'.mem hb
   exact⟨o2,e2⟩
  ·obtain⟨o',e⟩:=x.thr b o q hb
   exact⟨o',st b o' e⟩
structure Fl (P:Program)(w:World)(base:Heap)(l:List Env)(H H1:Hp)(h0:Heap)(e C:Addr)(B h:Heap):Prop extends Fl0 P w base l H H1 h0 B h where
 fly:∃ a0,Heap.FlyingW B l e (.ref C) a0 h
noncomputable def CXr (P:Program)(w:World)(base:Heap):CXT:=λl H s E ev s'=>
 ∃ e C H1 B,ev = .ref e/\s'.os=s.os/\AllBare s'.gens/\Fl P w base l H H1 s.heap e C B s'.heap/\E (.ref C) (some e) H1
section
variable {X:Cx}{pins:List (Addr×Obj)}{σ:St}{H H1:Hp}{s s':Shared}{e C:Addr}{B:Heap}
theorem Fl.inv (x:Fl X.prog X.w X.base X.stack H H1 s.heap e C B s'.heap)(I:Inv X pins σ H s)(ho:s'.os=s.os)(hg:AllBare s'.gens):Inv X pins σ H1 s':=by
 obtain⟨a0,f⟩:=x.fly
 exact I.Ho (ch:=[]) ho x.un (x.hok.kept f.1) hg (λb z=>absurd z (by simp))
theorem DW {M:Model}{E:Value->Shared->Prop}{h':Heap}{vs:List Value}(I:Inv X pins σ H s)(hst:X.stack=X.env::X.outer)(hf:X.env.frame=some X.env.locals)(hex:X.ex = [])
  (hx:Heap.MadeExcOf s.heap h' e (.ref C) vs) (hQ:∀ B h'',Fl X.prog X.w X.base X.outer X.H₀ H X.s₀.heap e C B h''->Q () {s with heap:=h''}):
  wpAny M X.A (leaving X.env (.ref e)) Q E {s with heap:=h'} :=by
 have hfr:=I.ok.frames
 rw[hst]at hfr
 have Gv:=I.stack
 rw[hst]at Gv
 have hin:∀ env∈(X.env::X.outer),∀ b,env.frame=some b->b∈frs (X.env::X.outer):=λenv he b hb=>fi.mpr ⟨env,he,hb⟩
 have nb:∀ b,b≠X.env.locals->b∉X.fs->b∉frs (X.env::X.outer):=λb h1 h2 hb=>by
  unfold frs at hb
  rw[dN,hf]at hb
  rcases aE.mp hb with z |z
  ·exact h1 z
  ·exact h2 z
 have neL:∀ b o,X.s₀.heap.get? b=some o->b≠X.env.locals:=λb o e=>aL (aU (aA e) I.ok.above)
 refine wpAny_leaves_madeW (base:=hideAll s.heap (frs (X.env::X.outer))) hfr hf (λb o q=>of_hideAll _ q) (funFrames_hide Gv hin) hx λh'' t x1 x2 x3 x4=>?_
 have hok:HOk X.prog X.w H (hideAll s.heap (frs (X.env::X.outer))):=λb u q=>by
  refine(I.hok b u q).qh (λc v hc z=>hideAll_get _ z λhm=>?_) (λ_ z=>z) λ_ _ z=>z
  have hn:H c=none:=I.xw c (by rw[hst];exact hm)
  rcases hc with rfl |hc
  ·rw[hn]at q;cases q
  ·rw[hn]at hc;cases hc
 have z0:Fl0 X.prog X.w X.base X.outer X.H₀ H X.s₀.heap (hideAll s.heap (frs (X.env::X.outer))) h':=by
  have ub:Un X.fs [] X.H₀ H X.s₀.heap s.heap:=by have:=I.base;rw[hex]at this;exact this
  refine⟨λb o q=>hideAll_get _ (I.bk b o q) λhm=>?_,hok,λb o q n hb=>hideAll_get _ (ub.keep b o q n hb (by simp)) (nb b (neL b o q) hb),λb o q hb=>?_,ub.trans (Un.kept hx.keeps)⟩
  ·have:=(Gv.mem hm).1
   rw[q]at this;cases this
  ·obtain⟨o',e1⟩:=ub.there b o q (by simp)
   exact⟨o',hideAll_get _ e1 (nb b (neL b o q) hb)⟩
 have ff:h'.FunFrames (hideAll s.heap (frs (X.env::X.outer))) X.outer:=by
  obtain⟨_,_,z⟩:=(funFrames_hide Gv hin).of_keeps λb o hb _=>⟨o,hx.keeps b o hb,rfl⟩
  exact z
 exact hQ _ h'' ⟨z0.step x1.1 ff x1.2.2.1 x4,_,x1⟩
theorem Gb {M:Model}{E:Value->Shared->Prop}(I:Inv X pins σ H s)(hst:X.stack=X.env::X.outer)(hf:X.env.frame=some X.env.locals)(hex:X.ex = [])
  (ho:s'.os=s.os) (hg:AllBare s'.gens) (x:Fl X.prog X.w X.base X.stack H H1 s.heap e C B s'.heap) (hQ:∀ B h'',Fl X.prog X.w X.base X.outer X.H₀ H1 X.s₀.heap e C B h''->Q () {s' with heap:=h''}):
  wpAny M X.A (leaving X.env (.ref e)) Q E s':=by
 have J:=x.inv I ho hg
 have hfr:=I.ok.frames
 obtain⟨a0,f⟩:=x.fly
 have nb:∀ b,b≠X.env.locals->b∉X.fs->b∉frs X.stack:=λb h1 h2 hb=>(aE.mp (I.nv b hb)).elim h1 h2
 have neL:∀ b o,X.s₀.heap.get? b=some o->b≠X.env.locals:=λb o e=>aL (aU (aA e) I.ok.above)
 rw[hst]at hfr f
 have ub:Un X.fs [] X.H₀ H X.s₀.heap s.heap:=by have:=I.base;rw[hex]at this;exact this
 have uj:Un X.fs [] X.H₀ H1 X.s₀.heap s'.heap:=by have:=J.base;rw[hex]at this;exact this
 have z0:Fl0 X.prog X.w X.base X.outer X.H₀ H1 X.s₀.heap B s'.heap:=by
  refine⟨x.bas,x.hok,λb o q n hb=>x.kp b o (ub.keep b o q n hb (by simp)) (ub.free b o q n (by simp)) (nb b (neL b o q) hb),λb o q hb=>?_,uj⟩
  obtain⟨o',e1⟩:=ub.there b o q (by simp)
  exact x.thr b o' e1 (nb b (neL b o q) hb)
 have ff:s'.heap.FunFrames B X.outer:=f.2.2.1.2.2
 exact wpAny_leaves_onW hfr hf f λh'' x1 x2=>hQ B h'' ⟨z0.step x1.1 ff x1.2.2.1 x2,a0,x1⟩
end
section
variable {P:Program}{w:World}{K:PySem.W.Frag}{mg:Str->Option Value}{base:Heap}{N:List Str}{qual:Str}{scope:Scope}{f:Addr}{cd:Value}{A:Around}{outer:List Env}{s₀:Shared}{H₀:Hp}{E:XK}
noncomputable def Raises (X:Cx)(E:XK):Prop:=∀ (pins:List (Addr×Obj)) (σ:St) (H:Hp) (s:Shared) (h':Heap) (e C:Addr) (vs:List Value),Inv X pins σ H s->Heap.MadeExcOf s.heap h' e (.ref C) vs->E (.ref C) (some e) H->X.xe (.ref e) {s with heap:=h'}
theorem mr:Raises (yo (CXr P w base) P w K mg base N qual scope f cd A outer s₀ H₀ E) E:=λpins σ H s h' e C vs I hx q=>
 DW I rfl rfl rfl hx λB h'' z=>⟨e,C,H,B,rfl,I.os,I.bare,z,q⟩
theorem kQ:Passes (CXr P w base) (yo (CXr P w base) P w K mg base N qual scope f cd A outer s₀ H₀ E) E:=λpins σ H s e s' I hx=>by
 obtain⟨a,C,H1,B,rfl,ho,hg,z,q⟩:=hx
 exact Gb I rfl rfl rfl ho hg z λB' h'' z'=>⟨a,C,H1,B',rfl,ho.trans I.os,hg,z',q⟩
end
theorem GD {K:Frag}{h:Heap}{C:Addr}{bmB:List Value}{newId:String}(X:K.In h)(q:excIn K C bmB newId=true):
  ∃ bm N nm qn bs hdct sn sub ab col dd k0 k1 k2 k3 k5 mN,h.get? C=some (excClassObj nm qn C N bs bm hdct sn sub ab col dd k0 k1 k2 k3 k5 newId)/\h.Ns N mN/\mN "__init__" = none/\OwnTail h bmB bm:=by
 unfold excIn at q
 split at q
 ·rename_i d1 c1 l1 lk
  split at q
  ·rename_i D1 tl j0 j1 j2 j3 nn j5 e1 e2
   simp only[dF,fc,Bool.not_eq_true']at q
   obtain⟨⟨⟨⟨⟨q1,q2⟩,q3⟩,q4⟩,q5⟩,q6⟩:=q
   subst q1 q2
   cases c1
   dsimp only at e1 q3 q5 q6
   subst e1 q3
   cases l1
   dsimp only at e2
   subst e2
   exact⟨tl,_,_,_,_,_,_,_,_,_,d1,j0,j1,j2,j3,j5,_,X _ _ lk,.of_isNs (isNs_of_in X q5),nsMap_none_of_in X q5 q6,tail_of_in X q4⟩
  ·cases q
 ·cases q
section
variable {X:Cx}{E:XK}{x:Str}{np kJ pos:Pos}{C:Addr}{bmB:List Value}{Bn newId IC:String}{e₀:Expr}{rest:List Expr}{ta:TA}
noncomputable def Hy (C:Addr)(E:XK)(ta:TA):TS:=λ_ σ H=>ta σ H λvs H1=>vs.length<=sizeLine/\∀ e,H1 e=none->E (.ref C) (some e) H1
theorem nS (hR:Raises X E)(hc:X.calm=true)(hg:Gl X x)(hm:X.mg x=some (.ref C))(q:excIn X.K C bmB newId=true)(FB:ExcBaseFacts Bn newId IC bmB)(ha:PA X (e₀::rest) ta)
  (he:starEach (e₀::rest) X.env=(false,eval e₀ X.env)::starEach rest X.env:=by rfl) (hpl:(backTo kJ (starEach rest X.env)).any (·.1)=false:=by rfl) (hd:(x==("__debug__" :Str))=false:=by decide):
  PS X (.Raise (some (.Call (.Name x np) (e₀::rest) [] kJ)) none pos) (Hy C E ta):=by
 intro pins s σ H D I h
 obtain⟨tl,N,nm,qn,bs,hdct,sn,sub,ab,col,dd,k0,k1,k2,k3,k5,mN,hC,hN,hni,T⟩:=GD I.mod.kin q
 refine wpAny_Raise_call_subT (C:=C) (nm:=nm) (q:=qn) (N:=N) (bs:=bs) (bm:=tl) (hdct:=hdct) (sn:=sn) (sub:=sub) (ab:=ab) (col:=col) (dd:=dd) (k0:=k0) (k1:=k1) (k2:=k2) (k3:=k3) (k5:=k5)
  FB (mN:=mN) (T.hasType FB.hasBase) (I.ok.hd hc) (by rw[he];show(false||(backTo kJ (starEach rest X.env)).any (·.1))=false;rw[hpl];rfl) hni (oA I hg hm ⟨rfl,?_⟩ hd)
 have h2:=ha kJ pins s σ H _ I h
 rw[he]at h2 ⊢
 exact Calls.evalArgs_plain (bf h2 (λus s1 ⟨vs,H1,I1,r,z1,z2⟩=>⟨rfl,r.length ▸ z1,I1.bk _ _ hC,hN.keeps I1.bk,T.keeps I1.bk,λh' e hx=>hR pins σ H1 s1 h' e C us I1 hx (z2 e (I1.hok.none_of hx.new))⟩) λ_ _ y=>y)
end
noncomputable def vq (e C:Addr):HO:=.ext (XAt e C)
theorem GF {P:Program}{w:World}{H:Hp}{h:Heap}{e C:Addr}{o:Obj}(ho:h.get? e=some o)(hc:o.cls = .ref C):iR P w H h e (vq e C):=
 ⟨⟨o,ho,hc⟩,⟨o,ho⟩,λh1 h2 ⟨o',e1,e2⟩ k=>⟨o',k o' e1,e2⟩⟩
section
variable {X:Cx}{pins:List (Addr×Obj)}{σ:St}{H H1:Hp}{s s':Shared}{e C:Addr}{B:Heap}
theorem Inv.Jt {u:HO}(I:Inv X pins σ H s)(hn:H e=none)(h0:X.s₀.heap.get? e=none)(ho:iR X.prog X.w (upd H e u) s.heap e u)(nl:e≠X.env.locals)(nc:∀ x c,X.env.cells.lookup x=some c->c≠e)
  (np:∀ p∈X.pn++pins,p.1≠e):Inv X pins σ (upd H e u) s:=by
 have ne0:∀ b o,X.s₀.heap.get? b=some o->b≠e:=λb o q z=>by rw[z,h0]at q;cases q
 have neT:∀ b v,H b=some v->b≠e:=λb v q z=>by rw[z,hn]at q;cases q
 refine⟨I.ok,I.os,I.bare,⟨I.base.keep,I.base.slot,λb o q n hx=>?_,I.base.there,λb xs q=>?_,λb o v q=>?_,λb ps q=>?_⟩,I.loc,I.cell,?_,λx c q=>?_,λp hp=>?_,λb v q=>?_,I.len⟩
 ·rw[fK (ne0 b o q)];exact I.base.free b o q n hx
 ·have z:=I.base.kH b xs q;rw[fK (neT _ _ z)];exact z
 ·have z:=I.base.oP b o v q;rw[fK (neT _ _ z)];exact z
 ·obtain⟨m,z⟩:=I.base.qv b ps q;exact⟨m,by rw[fK (neT _ _ z)];exact z⟩
 ·rw[fK (bI nl)];exact I.free
 ·rw[fK (nc x c q)];exact I.kC x c q
 ·obtain⟨z1,z2,z3⟩:=I.pin p hp
  exact⟨z1,by rw[fK (np p hp)];exact z2,z3⟩
 ·by_cases hb:b=e
  ·subst hb;rw[fE]at q;cases q;exact ho
  ·rw[fK hb]at q
   exact(I.hok b v q).qh (λ_ _ _ z=>z) (λc z=>by rw[fK (neT _ _ z)];exact z) λc xs z=>by rw[fK (neT _ _ z)];exact z
theorem Fl.kept (x:Fl X.prog X.w X.base X.stack H H1 s.heap e C B s'.heap)(I:Inv X pins σ H s)(hex:X.ex = [])(ho:s'.os=s.os)(hg:AllBare s'.gens):Inv X pins σ (upd H1 e (vq e C)) s':=by
 have J:=x.inv I ho hg
 obtain⟨a0,f⟩:=x.fly
 obtain⟨oe,vs,he,hc,hd,_⟩:=f.first
 have nB:B.get? e=none:=f.2.1
 have nfr:e∉frs X.stack:=λhm=>by
  obtain⟨_,o,z,nf⟩:=f.2.2.1.mem hm
  rw[he]at z;cases z;exact nf vs hd
 refine J.Jt (x.hok.none_of nB) ?_ (GF he hc) ?_ (λy c q z=>?_) λp hp z=>?_
 ·cases q:X.s₀.heap.get? e with
  |none=>rfl
  |some o=>
   obtain⟨o',z⟩:=I.base.there e o q (by rw[hex];simp)
   obtain⟨o2,z2⟩:=x.thr e o' z nfr
   rw[nB]at z2;cases z2
 ·rintro rfl
  obtain⟨m,⟨o,es,ep,z,hd',_⟩,_⟩:=J.loc
  rw[he]at z;cases z;rw[hd]at hd';cases hd'
 ·subst z
  obtain⟨v,o,z,hd'⟩:=J.cell y _ q
  rw[he]at z;cases z;rw[hd]at hd';cases hd'
 ·obtain⟨z1,z2,z3,z4,_⟩:=I.pin p hp
  have z5:=x.kp p.1 p.2 z1 z2 λhm=>(aE.mp (I.nv _ hm)).elim z3 z4
  rw[z,nB]at z5;cases z5
noncomputable abbrev Cx.lP (X:Cx)(e:Addr):Cx:={X with A:=X.A.mark (some (.ref e)),calm:=false,xe:=λ_ _=>False}
theorem Inv.lP (I:Inv X pins σ H s)(e:Addr):Inv (X.lP e) pins σ H s:=
 ⟨⟨I.ok.mod,I.ok.kind,I.ok.glob,I.ok.blt,I.ok.above,I.ok.inj,I.ok.has,I.ok.cab,(λz=>nomatch z),I.ok.frames,I.ok.stk,I.ok.exf,I.ok.bs,I.ok.bsz,I.ok.AE,I.ok.CW,I.ok.sy,I.ok.frf⟩,I.os,I.bare,I.base,I.loc,I.cell,I.free,I.kC,I.pin,I.hok,I.len⟩
theorem Inv.uncaught (I:Inv (X.lP e) pins σ H s)(ok:X.Ok):Inv X pins σ H s:=⟨ok,I.os,I.bare,I.base,I.loc,I.cell,I.free,I.kC,I.pin,I.hok,I.len⟩
theorem name_goes {M:Model}{A:Around}{E:Value->Shared->Prop}{j:Nat}{n:Str}{pos:Pos}(I:Inv X pins σ H s)(hN:X.N.Nodup)(hj:X.N[j]? = some n)(hk:X.env.scope.names.lookup n=some .local)
  (h:∀ s',Inv X pins (σ.set j none) H s'->Q () s'):wpAny M A (do bindName X.env n .none;unbindBehindTheSuite X.env n pos) Q E s:=by
 obtain⟨m,hn,hl⟩:=id I.loc
 have IT:(X.env.scope.kind == .class||(X.env.scope.kind == .module&&X.env.locals !=X.env.globals))=false:=by rw[I.ok.kind];rfl
 have hjσ:j<σ.length:=by rw[I.len];exact(af.mp hj).1
 refine wpAny_nameGoes_keeps hk hn IT λh' v hn' hs=>h _ ?_
 have ne0:∀ b o,X.s₀.heap.get? b=some o->h'.get? b=s.heap.get? b:=λb o e=>hs.2 b (aL (aU (aA e) I.ok.above))
 refine⟨I.ok,I.os,I.bare,⟨λb o e n hb hx=>(ne0 b o e).trans (I.base.keep b o e n hb hx),λb o e n hb hx=>?_,I.base.free,λb o e hx=>?_,I.base.kH,I.base.oP,I.base.qv⟩,⟨_,hn',λi y v' e1 e2 e3=>?_⟩,
  λy c e=>?_,I.free,I.kC,λp hp=>?_,λb u e=>?_,by simpa using I.len⟩
 ·obtain⟨sl,z⟩:=I.base.slot b o e n hb hx
  exact⟨sl,(ne0 b o e).trans z⟩
 ·obtain⟨o',z⟩:=I.base.there b o e hx
  exact⟨o',(ne0 b o e).trans z⟩
 ·have hij:i≠j:=λz=>by subst z;rw[List.getElem?_set_self hjσ]at e2;cases e2
  rw[eL (bI hij)]at e2
  obtain⟨u',r',z⟩:=hl i y v' e1 e2 e3
  have ny:y≠n:=λz=>hij (uU hN e1 (z ▸ hj))
  refine⟨u',r',?_⟩
  rcases z with⟨k,z⟩|⟨k,c,z1,z2⟩
  ·exact .inl ⟨k,by show(if y=n then v else m y)=_;rw[aG ny];exact z⟩
  ·exact .inr ⟨k,c,z1,z2.sameBut hs (I.cne y c z1)⟩
 ·obtain⟨v',z⟩:=I.cell y c e
  exact⟨v',z.sameBut hs (I.cne y c e)⟩
 ·obtain⟨z1,z2,z3,z4,z5⟩:=I.pin p hp
  exact⟨(hs.2 p.1 z3).trans z1,z2,z3,z4,z5⟩
 ·refine(I.hok b u e).qh (λc v hc q=>(hs.2 c ?_).trans q) (λ_ q=>q) λ_ _ q=>q
  rintro rfl
  rcases hc with rfl |hc
  ·rw[I.free]at e;cases e
  ·rw[I.free]at hc;cases hc
end
theorem Dn {M:Model}{A:Around}{E:Value->Shared->Prop}{K:Frag}{s:Shared}{e C D:Addr}{oe:Obj}{Q:Bool->Shared->Prop}(X:K.In s.heap)(he:s.heap.get? e=some oe)(hc:oe.cls = .ref C)
  (hty:typeIn K (.ref D)=some (.type "type")) (IQ:(clsIn K D).isSome=true) (hb:mroIn K D (.type "BaseException")=some true) (hm:mroIn K C (.ref D)=some true) (hq:Q true s):
  wpAny M A (excMatches (.ref e) (.ref D)) Q E s:=by
 obtain⟨h,g,d,t,os⟩:=s
 have L0:=xty (M:=M) he hc
 have L1:=looks_mroIn (M:=M) X hb
 have L2:=looks_mroIn (M:=M) X hm
 have L3:=looks_typeIn (M:=M) X hty
 have f:=tc_notTuple
 unfold clsIn at IQ
 split at IQ
 ·rename_i c' d' cd' sl' ho
  have hD:=X _ _ ho
  unfold excMatches
  repeat (first |with_reducible refine L0.at ?_ |with_reducible refine L3.at ?_ |with_reducible refine L1.at ?_ |with_reducible refine L2.at ?_ |with_reducible refine wpAny_loadPart_at hD ?_ |wp_step)
  exact hq
 ·cases IQ
noncomputable def yv (CX:CXT)(X:Cx)(E:St->XK):Prop:=∀ (pins:List (Addr×Obj)) (σ:St) (H:Hp) (s:Shared) (e:Value) (s':Shared),Inv X pins σ H s->CX X.stack H s (E σ) e s'->X.xe e s'
noncomputable def HE (sp:Sp)(dvs:List V)(E:St->XK)(t:TA):TE:=λσ H Q=>t σ H λvs H1=>sp (vs++dvs) H1 Q (E σ)
section
variable {X:Cx}{CX:CXT}{k:Nat}{f:Addr}{fd:FuncData}{ps:List Str}{sp:Sp}{dvs:List V}{ds:List Value}{E:St->XK}{x:Str}{p pos:Pos}{e:Expr}{es:List Expr}{t:TA}
theorem o5 (F:fV X.prog X.w X.K X.mg X.base CX k f fd ps sp)(hr:m6 k X.A)(hg:Gl X x)(hm:X.mg x=some (.ref f))(hk:PySem.W.keepIn X.K (.ref f)=true)(hb:Binds X.K fd ps ds)(hd:Vals dvs ds)(hx:yv CX X E)
  (ha:PA X (e::es) t) (hdb:(x==("__debug__" :Str))=false:=by decide) (he:starEach (e::es) X.env=(false,eval e X.env)::starEach es X.env:=by rfl) (hpl:(backTo pos (starEach es X.env)).any (·.1)=false:=by rfl):
  PE X (.Call (.Name x p) (e::es) [] pos) (HE sp dvs E t):=by
 intro pins s σ H Q I h
 refine fy (oA I hg hm ?_ hdb)
 refine PySem.W.callWith_K (h₀:=X.base) I.ok.mod.kin hk (thn (ha pos pins s σ H _ I h) λus s1 ⟨vs,H1,I1,r,q⟩=>⟨I1.kIn,?_⟩) he hpl
 have r2:Vals (vs++dvs) (us++ds):=r.append hd
 have hl:(us++ds).length=ps.length:=by rw[<-r2.length];exact F.len _ _ _ _ q
 refine wpAny_call (codeAny_mono (F.run X.A X.stack s1 H1 ⟨us,[]⟩ (us++ds) (vs++dvs) Q (E σ) hr I1.KY (hb s1 us I1.kIn hl) r2 q) λr s' hq=>?_)
 cases r with
 |error e=>exact hx pins σ H1 s1 e s' I1 hq
 |ok fl=>
  cases fl with
  |ret u=>exact I1.after hq
  |next=>exact False.elim hq
  |brk=>exact False.elim hq
  |cont=>exact False.elim hq
end
noncomputable abbrev Cx.oo (X:Cx)(pn:List (Addr×Obj))(W:Value->Shared->Prop):Cx:={X with pn:=X.pn++pn,xe:=W}
section
variable {X:Cx}{pins pn:List (Addr×Obj)}{σ:St}{H:Hp}{s:Shared}{W:Value->Shared->Prop}
theorem Inv.oo (I:Inv X pins σ H s)(W:Value->Shared->Prop):Inv (X.oo pins W) pins σ H s:=
 ⟨⟨I.ok.mod,I.ok.kind,I.ok.glob,I.ok.blt,I.ok.above,I.ok.inj,I.ok.has,I.ok.cab,I.ok.hd,I.ok.frames,I.ok.stk,I.ok.exf,I.ok.bs,I.ok.bsz,I.ok.AE,I.ok.CW,I.ok.sy,I.ok.frf⟩,I.os,I.bare,I.base,I.loc,I.cell,I.free,I.kC,
  (λp hp=>I.pin p (by
   rcases aD.mp hp with z |z
   ·exact z
   ·exact aD.mpr (.inr z))),I.hok,I.len⟩
theorem Inv.qk (I:Inv (X.oo pn W) pins σ H s)(ok:X.Ok):Inv X pn σ H s:=
 ⟨ok,I.os,I.bare,I.base,I.loc,I.cell,I.free,I.kC,(λp hp=>I.pin p (aD.mpr (.inl hp))),I.hok,I.len⟩
end
structure rW (K:Frag)(D C:Addr):Prop where
 ty:typeIn K (.ref D)=some (.type "type")
 isc:(clsIn K D).isSome=true
 bex:mroIn K D (.type "BaseException")=some true
 mro:mroIn K C (.ref D)=some true
noncomputable abbrev Ends.gone (D:Ends)(j:Nat):Ends:={nx:=λσ H=>D.nx (σ.set j none) H,rt:=D.rt,bk:=λσ H=>D.bk (σ.set j none) H,ct:=λσ H=>D.ct (σ.set j none) H}
noncomputable def KZ (K:Frag)(D:Addr)(j:Nat)(th:TS)(Z:Ends):St->XK:=λσ c a H=>∃ e C,a=some e/\c = .ref C/\rW K D C/\th (Z.gone j) (σ.set j (some (.ref e))) (upd H e (vq e C))
noncomputable def Ld (K:Frag)(D:Addr)(j:Nat)(tb:(St->XK)->TS)(th:TS):TS:=λZ σ H=>tb (KZ K D j th Z) Z σ H
section
variable {X:Cx}{body uc:List Stmt}{b₀:Stmt}{x n:Str}{np CQ pos:Pos}{D:Addr}{j:Nat}{tb:(St->XK)->TS}{th:TS}
theorem HQ (hst:X.stack=X.env::X.outer)(hfr:X.env.frame=some X.env.locals)(hex:X.ex = [])(hN:X.N.Nodup)(hj:X.N[j]? = some n)(hn:X.env.scope.names.lookup n=some .local)(hg:Gl X x)(hm:X.mg x=some (.ref D))
  (hb:∀ pn W (E:St->XK),yv (CXr X.prog X.w X.base) (X.oo pn W) E->PSs (X.oo pn W) body (tb E)) (hs:∀ e,PSs (X.lP e) (b₀::uc) th) (hd:(x==("__debug__" :Str))=false:=by decide):
  PS X (.Try body [.ExceptHandler (some (.Name x np)) (some n) (b₀::uc) CQ] [] [] pos) (Ld X.K D j tb th):=by
 intro pins s σ H Z I h
 refine wpAny_Try_except ?_
 refine bf (hb pins (λe s₁=>wpAny (model X.prog X.w) X.A (noteFrame e X.env) (λ_ s₂=>wpAny (model X.prog X.w) X.A (setFlight e none) (λ_ s₃=>wpAny (model X.prog X.w) X.A (handleBy e X.env [.ExceptHandler (some (.Name x np)) (some n) (b₀::uc) CQ]) (SP X pins Z) X.xe s₃) X.xe s₂) X.xe s₁)
  (KZ X.K D j th Z) ?_ pins s σ H Z (I.oo _) h) (λf s1 q=>?_) λe s1 q=>q
 ·intro sT σ1 H1 s1 ev s2 I1' hx
  have I1:Inv X pins σ1 H1 s1:=I1'.qk I.ok
  obtain⟨e,C',H2,B,rfl,ho,zA,x0,e',C,z1,z2,cat,q⟩:=hx
  obtain rfl:e=e':=bc z1
  obtain rfl:C'=C:=by injection z2
  have x0:Fl X.prog X.w X.base X.stack H1 H2 s1.heap e C' B s2.heap:=x0
  obtain⟨a0,f0⟩:=x0.fly
  have EX:=I.ok.frames
  rw[hst]at EX
  have f0':=f0
  rw[hst]at f0'
  show wpAny (model X.prog X.w) X.A (noteFrame (.ref e) X.env) _ _ s2
  refine wpAny_looks_onW EX hfr f0' λh4 hh4 sm4=>?_
  refine wpAny_landsW hh4 λh5 f5 sm5=>?_
  have f5':Heap.FlyingW B X.stack e (.ref C') a0 h5:=by rw[hst];exact f5
  have x5:Fl X.prog X.w X.base X.stack H1 H2 s1.heap e C' B h5:=⟨x0.toFl0.step f5'.1 f0.2.2.1 f5'.2.2.1 (sm4.trans sm5),a0,f5'⟩
  have I5:Inv X pins σ1 (upd H2 e (vq e C')) {s2 with heap:=h5} :=Fl.kept (s':={s2 with heap:=h5}) x5 I1 hex ho zA
  obtain⟨oe,he,hec⟩:=f5'.there
  refine wpAny_handleBy_cons (codeAny_handlers_test (oA (X:=X.lP e) (I5.lP e) hg hm ?_ hd)) (by intro q;cases q)
  refine Dn (K:=X.K) I5.kIn he hec cat.ty cat.isc cat.bex cat.mro (codeAny_handlers_suite_as ?_)
  refine lands_againW f5' λh6 f6 sm6=>?_
  have x6:Fl X.prog X.w X.base X.stack H1 H2 s1.heap e C' B h6:=⟨x5.toFl0.step f6.1 f5'.2.2.1 f6.2.2.1 sm6,a0,f6⟩
  have I6:Inv X pins σ1 (upd H2 e (vq e C')) {s2 with heap:=h6} :=Fl.kept (s':={s2 with heap:=h6}) x6 I1 hex ho zA
  refine qM (X:=X.lP e) (I6.lP e) hN hj (.inl hn) (v:=.ref e) rfl (λs7 I7=>?_) (.inr hn)
  refine bf (hs e pins s7 _ _ (Z.gone j) I7 q) (λf s8 q8=>?_) λ_ _ z=>False.elim z
  cases f with
  |next=>obtain⟨σ8,H8,I8,q8⟩:=q8;exact name_goes (I8.uncaught I.ok) hN hj hn λs9 I9=>⟨_,H8,I9,q8⟩
  |brk=>obtain⟨σ8,H8,I8,q8⟩:=q8;exact name_goes (I8.uncaught I.ok) hN hj hn λs9 I9=>⟨_,H8,I9,q8⟩
  |cont=>obtain⟨σ8,H8,I8,q8⟩:=q8;exact name_goes (I8.uncaught I.ok) hN hj hn λs9 I9=>⟨_,H8,I9,q8⟩
  |ret u=>obtain⟨v8,σ8,H8,I8,r8,q8⟩:=q8;exact name_goes (I8.uncaught I.ok) hN hj hn λs9 I9=>⟨v8,_,H8,I9,r8,q8⟩
 ·cases f with
  |next=>obtain⟨σ8,H8,I8,q8⟩:=q;exact eh ⟨σ8,H8,I8.qk I.ok,q8⟩
  |brk=>obtain⟨σ8,H8,I8,q8⟩:=q;exact⟨σ8,H8,I8.qk I.ok,q8⟩
  |cont=>obtain⟨σ8,H8,I8,q8⟩:=q;exact⟨σ8,H8,I8.qk I.ok,q8⟩
  |ret u=>obtain⟨v8,σ8,H8,I8,r8,q8⟩:=q;exact⟨v8,σ8,H8,I8.qk I.ok,r8,q8⟩
end
theorem iZ {X:Cx} :kG X (.builtin "isinstance") (λxs H Q=>∃ e C c cv b,xs = [.ref e,c]/\H e=some (vq e C)/\ExC X.K C/\RelV c cv/\(∀ cv',RelV c cv'->cv'=cv)/\kitOne X.K (.ref C) cv=some b/\Q (.bl b) H):=by
 intro pins s σ H vs us Q I r h
 obtain⟨e,C,c,cv,b,rfl,he,ex,_,rc,hk,q⟩:=h
 cases r with
 |cons r1 r2=>
  cases r2 with
  |cons r2 r3=>
   cases r3
   obtain rfl:=(show _=Value.ref e from r1)
   rw[rc _ r2]
   obtain⟨p,_,_⟩:=(show iR X.prog X.w H s.heap e (.ext (XAt e C)) from I.hok e _ he)
   exact kia_one (EL ex) I.kIn p hk (λz=>nomatch z) λtk=>⟨.bl b,H,I.tok tk,rfl,q⟩
open TL
section
variable {P:Program}{w:World}{K:PySem.W.Frag}{mg:Str->Option Value}{base:Heap}
theorem Fun.okX {x qual:Str}{st:Stmt}{f:Addr}{fd:FuncData}{N ps:List Str}{k:Nat}{sp:Sp}(F:Fun K x qual st f fd)(S:gf N ps (fM st))(len:∀ vs H Q E,sp vs H Q E->vs.length=ps.length)
  (zB:∀ (cdv:Value) (A:Around) (outer:List Env) (s:Shared) (H:Hp) (vs:List V) (Q:VK) (E:XK),m6 k (A.deeper (envOfC qual (fM st) s.heap.objs.size f cdv))->sp vs H Q E->
   ∃ t,PSs (yo (CXr P w base) P w K mg base N qual (fM st) f cdv A outer s H E) (lA st) t/\t {nx:=λ_ H'=>Q .non H',rt:=Q} (start N vs) H):fV P w K mg base (CXr P w base) (k+1) f fd ps sp:=by
 obtain⟨oc,od,kV,doc,pm,an,cdv,ct,osl,rfl,lk,hcd⟩:=F.ex
 exact Hh lk hcd S len λA outer s H vs Q E hr hsp=>zB cdv A outer s H vs Q E hr hsp
end
abbrev bmV:List Value:=[.type "ValueError",.type "Exception",.type "BaseException",.type "object"]
structure Xc (K:Frag)(mg:Str->Option Value)(x:Str)(C:Addr):Prop where
 m:mg x=some (.ref C)
 q:excIn K C bmV "ValueError.__new__" = true
 e:ExC K C
structure Xs (K:Frag)(mg:Str->Option Value)(D c1 c2 c3 c4 c5 c6 c7:Addr):Prop where
 VE:mg "ValueError" = none
 Dl:Xc K mg "TurnError" D
 FD:Xc K mg "NoLine" c1
 jm:Xc K mg "NoTrain" c2
 FC:Xc K mg "NoMove" c3
 B7:Xc K mg "NoPiece" c4
 p8:Xc K mg "TooMany" c5
 Fz:Xc K mg "NoText" c6
 Hs:Xc K mg "NoRow" c7
 cat:∀ c∈ [c1,c2,c3,c4,c5,c6,c7],rW K D c
 val:∀ c∈ [c1,c2,c3,c4,c5,c6,c7],kitOne K (.ref c) (.type "ValueError")=some true
 eq:∀ c∈ [c1,c2,c3,c4,c5,c6,c7],∀ d∈ [c1,c2,c3,c4,c5,c6,c7],kitOne K (.ref c) (.ref d)=some (decide (c=d))
 nd:[c1,c2,c3,c4,c5,c6,c7].Nodup
theorem tH:bootBuiltins "ValueError" = some (.type "ValueError"):= PyProof.Rows.Boot.«ValueError»
theorem Vals.bls:∀ {bs:List Bool}{its:List Value},Vals (bs.map V.bl) its->its=bs.map Value.bool
 |[],_,.nil=>rfl
 |b::bs,_,.cons r t=>by rw[Vals.bls t,(show _=Value.bool b from r)];rfl
section
variable {X:Cx}
noncomputable def F5:V->List V->Hp->VK->Prop:=λx vs H Q=>∃ (l:Addr) (bs:List Bool) (c:Bool),x = .ref l/\vs = [.bl c]/\H l=some (.lst (bs.map V.bl))/\Q (.int (bs.count c:Nat)) H
noncomputable def vb (c:Bool):Value->Bool
 |.bool b=>b==c
 |_=>false
theorem Ey:MtM X "list.count" F5:=by
 intro pins s σ H x vs v us Q I rx rv h
 obtain⟨l,bs,c,rfl,rfl,hH,q⟩:=h
 cases rx
 cases rv with
 |cons r1 r2=>
  cases r2
  obtain rfl:=(show _=Value.bool c from r1)
  obtain⟨z,its,n,r,hl,e⟩:=I.ya hH
  have hi:=r.bls
  subst hi
  refine eZ PySem.F.slot_list_count ⟨_,e,rfl⟩ PySem.F.entry_list_count (PySem.F.args_list_count_2 _ _) (SeqAt.list_countAt l _ n none #[] (.bool c) (vb c)) ⟨e,λy hy=>?_,?_⟩
  ·rw[List.mem_toArray]at hy
   obtain⟨b,_,rfl⟩:=ao.mp hy
   exact SeqAt.EqAt.bool_bool b c
  ·have e1:((bs.map Value.bool).toArray.toList.countP (vb c))=bs.count c:=by
    simp only[cQ]
    rw[List.countP_map]
    rfl
   rw[e1]
   exact⟨.int _,H,I.tok _,⟨_,rfl⟩,q⟩
noncomputable def F4:V->List V->Hp->VK->Prop:=λx vs H Q=>∃ (l:Addr) (bs:List Bool) (c:Bool) (j:Nat),x = .ref l/\vs = [.bl c]/\H l=some (.lst (bs.map V.bl))/\bs[j]? = some c/\(∀ m,m<j->bs[m]? = some (!c))/\Q (.int (j:Nat)) H
theorem Ex:MtM X "list.index" F4:=by
 intro pins s σ H x vs v us Q I rx rv h
 obtain⟨l,bs,c,j,rfl,rfl,hH,hj,hno,q⟩:=h
 cases rx
 cases rv with
 |cons r1 r2=>
  cases r2
  obtain rfl:=(show _=Value.bool c from r1)
  obtain⟨z,its,n,r,hl,e⟩:=I.ya hH
  have hi:=r.bls
  subst hi
  have hjl:j<bs.length:=(af.mp hj).1
  have hjs:j<(bs.map Value.bool).toArray.size:=by simpa using hjl
  have h63:(sizeLine:Nat)<2 ^ 62:=by rw[cy];decide
  have z':bs.length<=sizeLine:=by simpa using z
  refine eZ PySem.F.slot_list_index ⟨_,e,rfl⟩ PySem.F.entry_list_index (PySem.F.args_list_index_2 _ _) (SeqAt.list_indexAt l _ n none #[] (.bool c) (vb c) j hjs (by omega) ?_ λm hm hmj=>?_) ⟨e,λy hy=>?_,?_⟩
  ·have:bs[j]=c:=(af.mp hj).2
   simp[vb,this]
  ·have hm':=hno m hmj
   have:bs[m]'(by omega) = !c:=(af.mp hm').2
   simp[vb,this]
  ·rw[List.mem_toArray]at hy
   obtain⟨b,_,rfl⟩:=ao.mp hy
   exact SeqAt.EqAt.bool_bool b c
  ·exact⟨.int _,H,I.tok _,⟨_,rfl⟩,q⟩
end
structure mS (K:Frag)(x:Str)(C:Addr):Prop where
 b:nsIn K mainGlobals x=some (some (.ref C))
 q:excIn K C bmV "ValueError.__new__" = true
 o:mroIn K C (.type "object")=some true
 p:mroIn K C (.type "BaseException")=some true
 r:findIn K (.ref C) "__class__" = some (some (.builtin "object.__class__"))
 g:findIn K (.ref C) "__getattribute__" = some (some (.builtin "BaseException.__getattribute__"))
 h:findIn K (.ref C) "__getattr__" = some none
 i:isClsIn K C=true
 t:typeIn K (.ref C)=some (.type "type")
structure qB (K:Frag)(D C:Addr):Prop where
 m:mroIn K C (.ref D)=some true
 v:subIn K (.ref C) (.type "ValueError")=some true
structure rR (K:Frag)(c d1 d2 d3 d4 d5 d6:Addr):Prop where
 e1:subIn K (.ref c) (.ref d1)=some false
 e2:subIn K (.ref c) (.ref d2)=some false
 e3:subIn K (.ref c) (.ref d3)=some false
 e4:subIn K (.ref c) (.ref d4)=some false
 e5:subIn K (.ref c) (.ref d5)=some false
 e6:subIn K (.ref c) (.ref d6)=some false
section
variable {K:Frag}{h:Heap}{mg:Str->Option Value}{x:Str}{C D:Addr}
theorem mS.isc (a:mS K x C):(clsIn K C).isSome=true:=by
 have:=a.i
 unfold isClsIn at this
 exact this
theorem mS.ex (a:mS K x C):ExC K C:=⟨a.o,a.p,a.r,a.g,a.h,a.isc⟩
theorem mS.xc (a:mS K x C)(X:K.In h)(G:h.Ns mainGlobals mg):Xc K mg x C:=⟨mg_of X G a.b,a.q,a.ex⟩
theorem qz {y:Str}{d:Addr}(a:mS K y d)(hne:C≠d)(e:subIn K (.ref C) (.ref d)=some false):kitOne K (.ref C) (.ref d)=some (decide (C=d)):=by
 have h1:(Value.ref C==Value.ref d)=false:=Bool.eq_false_iff.mpr λz=>hne (Value.ref.inj (fc.mp z))
 unfold kitOne kitCls
 rw[h1,aG (by decide)]
 dsimp only
 rw[a.isc,a.t,aQ (by rfl),e,aW hne]
theorem Ir:kitOne K (.ref C) (.ref C)=some (decide (C=C)):=by
 unfold kitOne
 rw[aQ (eB _),bB rfl]
theorem oD (e:subIn K (.ref C) (.type "ValueError")=some true):kitOne K (.ref C) (.type "ValueError")=some true:=by
 unfold kitOne kitCls
 rw[aG (by intro z;cases fc.mp z)]
 dsimp only
 rw[aQ (by decide +kernel),e]
variable {c1 c2 c3 c4 c5 c6 c7:Addr}
theorem Jn (X:K.In h)(G:h.Ns mainGlobals mg)(ve:nsIn K mainGlobals "ValueError" = some none)(b0:mS K "TurnError" D)(b1:mS K "NoLine" c1)(b2:mS K "NoTrain" c2)(b3:mS K "NoMove" c3)(b4:mS K "NoPiece" c4)
  (b5:mS K "TooMany" c5) (b6:mS K "NoText" c6) (b7:mS K "NoRow" c7) (d1:qB K D c1) (d2:qB K D c2) (d3:qB K D c3) (d4:qB K D c4) (d5:qB K D c5) (d6:qB K D c6) (d7:qB K D c7)
  (e1:rR K c1 c2 c3 c4 c5 c6 c7) (e2:rR K c2 c1 c3 c4 c5 c6 c7) (e3:rR K c3 c1 c2 c4 c5 c6 c7) (e4:rR K c4 c1 c2 c3 c5 c6 c7) (e5:rR K c5 c1 c2 c3 c4 c6 c7) (e6:rR K c6 c1 c2 c3 c4 c5 c7) (e7:rR K c7 c1 c2 c3 c4 c5 c6)
  (nd:[c1,c2,c3,c4,c5,c6,c7].Nodup):Xs K mg D c1 c2 c3 c4 c5 c6 c7:=by
 have ct:∀ {c:Addr},qB K D c->rW K D c:=λd=>⟨b0.t,b0.isc,b0.p,d.m⟩
 refine⟨mg_none_of X G ve,b0.xc X G,b1.xc X G,b2.xc X G,b3.xc X G,b4.xc X G,b5.xc X G,b6.xc X G,b7.xc X G,λc hc=>?_,λc hc=>?_,λc hc d hd=>?_,nd⟩
 ·simp only[aE,cT,or_false]at hc
  rcases hc with rfl |rfl |rfl |rfl |rfl |rfl |rfl
  ·exact ct d1
  ·exact ct d2
  ·exact ct d3
  ·exact ct d4
  ·exact ct d5
  ·exact ct d6
  ·exact ct d7
 ·simp only[aE,cT,or_false]at hc
  rcases hc with rfl |rfl |rfl |rfl |rfl |rfl |rfl
  ·exact oD d1.v
  ·exact oD d2.v
  ·exact oD d3.v
  ·exact oD d4.v
  ·exact oD d5.v
  ·exact oD d6.v
  ·exact oD d7.v
 ·have hcd:c=d\/c≠d:=by by_cases h:c=d;exact .inl h;exact .inr h
  rcases hcd with rfl |hne
  ·exact Ir
  ·simp only[aE,cT,or_false]at hc hd
   have ee:subIn K (.ref c) (.ref d)=some false:=by
    rcases hc with rfl |rfl |rfl |rfl |rfl |rfl |rfl<;>rcases hd with rfl |rfl |rfl |rfl |rfl |rfl |rfl<;>
     first |exact absurd rfl hne |exact e1.e1 |exact e1.e2 |exact e1.e3 |exact e1.e4 |exact e1.e5 |exact e1.e6 |exact e2.e1 |exact e2.e2 |exact e2.e3 |exact e2.e4 |exact e2.e5 |exact e2.e6 |exact e3.e1 |exact e3.e2 |exact e3.e3 |exact e3.e4 |exact e3.e5 |exact e3.e6 |exact e4.e1 |exact e4.e2 |exact e4.e3 |exact e4.e4 |exact e4.e5 |exact e4.e6 |exact e5.e1 |exact e5.e2 |exact e5.e3 |exact e5.e4 |exact e5.e5 |exact e5.e6 |exact e6.e1 |exact e6.e2 |exact e6.e3 |exact e6.e4 |exact e6.e5 |exact e6.e6 |exact e7.e1 |exact e7.e2 |exact e7.e3 |exact e7.e4 |exact e7.e5 |exact e7.e6
   rcases hd with rfl |rfl |rfl |rfl |rfl |rfl |rfl
   ·exact qz b1 hne ee
   ·exact qz b2 hne ee
   ·exact qz b3 hne ee
   ·exact qz b4 hne ee
   ·exact qz b5 hne ee
   ·exact qz b6 hne ee
   ·exact qz b7 hne ee
end
end L2
namespace TL
open PySem PySem.Spec PyProof.Rows L2
structure Bm (mg:Str->Option Value):Prop extends Bl mg where
 zip:mg "zip" = none
 sum:mg "sum" = none
 all:mg "all" = none
 set:mg "set" = none
 tuple:mg "tuple" = none
 abs:mg "abs" = none
 bool:mg "bool" = none
 dict:mg "dict" = none
 str:mg "str" = none
variable {H:Hp}
theorem Inv.FP {X:Cx}{pins:List (Addr×Obj)}{σ:St}{s:Shared}{h':Heap}{t':Nat}{ch:List Addr}(I:Inv X pins σ H s)(hf:∀ b∈ch,lS X pins H b)
  (keep:∀ b o,b∉ch->s.heap.get? b=some o->h'.get? b=some o):Inv X pins σ H {s with heap:=h',toks:=t'} :=by
 have nch:∀ b u,H b=some u->b∉ch:=λb u q z=>by rw[(hf b z).1]at q;cases q
 refine I.step (g':=s.gens) (d':=s.drawn) (ch:=ch) (λb hb=>?_) (λb o _ _ hc q _=>keep b o hc q) (λb o _ _ hc q _=>⟨o.slots,keep b o hc q⟩) (λ_ _ _ _ n=>n)
  (λb o hc q=>⟨o,keep b o hc q⟩) (λ_ _ e=>e) (λ_ _ _ e=>e) (λb ps e=>⟨#[],by rw[e];simp⟩) (λm hm=>?_) (λb u q=>?_) I.bare
 ·obtain⟨f0,f1,f2,f3,f4,f5⟩:=hf b hb
  exact⟨f3,f1,f4,f5⟩
 ·obtain⟨o,es,ep,ho,r⟩:=hm
  exact⟨o,es,ep,keep _ o (λz=>(hf _ z).2.1 rfl) ho,r⟩
 ·refine(I.hok b u q).qh (λc v hc q'=>keep c v ?_ q') (λc z=>z) λc ys z=>z
  rcases hc with z |z
  ·rw[z];exact nch b u q
  ·exact nch c _ z
noncomputable def Itz (K:PySem.W.Frag)(a b:Addr):It:=
 ⟨λi H=>∃ xs ys x y,SqL K H a xs/\SqL K H b ys/\xs[i]? = some x/\ys[i]? = some y,
  λi H v H'=>∃ p,H p=none/\v = .ref p/\∀ xs ys x y,SqL K H a xs->SqL K H b ys->xs[i]? = some x->ys[i]? = some y->H'=upd H p (.tup [x,y]),
  λi H=>∃ xs ys,SqL K H a xs/\SqL K H b ys/\(xs.length<=i\/ys.length<=i)⟩
theorem Dx {P:Program}{w:World}{K:PySem.W.Frag}{es:List Expr}{x1:Nat}{pt:Pos}{a b z TI TO i1 i2:Addr}(D:ZipApart z TI TO i1 i2 a b):
  Turn P w K (.Tuple es x1 pt) (Itz K a b) [z,TI,TO,i1,i2] z (λi h=>IsZip h z TI TO .none/\IsPair h TI (.ref i1) (.ref i2)/\(∃ u v,IsPair h TO u v)/\h.IsListIter i1 a i/\h.IsListIter i2 b i) where
 mem:=by simp
 obj:=λi h st c hc=>by
  obtain⟨hz,h1,⟨u,v,h2⟩,h3,h4⟩:=st
  obtain⟨o3,q3,_,d3⟩:=h3
  obtain⟨o4,q4,_,d4⟩:=h4
  simp only[aE,cT,or_false]at hc
  rcases hc with rfl |rfl |rfl |rfl |rfl
  ·exact⟨_,hz,λv z=>by cases z⟩
  ·exact⟨_,h1,λv z=>by cases z⟩
  ·exact⟨_,h2,λv z=>by cases z⟩
  ·exact⟨_,q3,λv z=>by rw[d3]at z;cases z⟩
  ·exact⟨_,q4,λv z=>by rw[d4]at z;cases z⟩
 keep:=λi h h' ⟨hz,h1,⟨u,v,h2⟩,h3,h4⟩ k=>⟨k z (by simp) _ hz,k TI (by simp) _ h1,⟨u,v,k TO (by simp) _ h2⟩,h3.at λo q=>k i1 (by simp) o q,h4.at λo q=>k i2 (by simp) o q⟩
 item:=by
  intro X hP hw hK hc i pins s σ H E I hf st hg
  subst hP hw hK
  obtain⟨hz,h1,⟨u0,v0,h2⟩,h3,h4⟩:=st
  obtain⟨xs,ys,x,y,hx,hy,ex,ey⟩:=hg
  obtain⟨its,rv,p,hzx⟩:=I.list hx
  obtain⟨jts,rw',p',hzy⟩:=I.list hy
  obtain⟨u,hu,ru⟩:=rv.get ex
  obtain⟨v,hv,rv'⟩:=rw'.get ey
  refine wpAny_pyNext_zip_item D hz h1 h2 h3 h4 p.isList p'.isList (x:=u) (y:=v) (by simpa using hu) (by simpa using hv) λh' a1 a2 a3 a4 a5 a6 hk=>?_
  refine⟨_,rfl,?_⟩
  refine wpAny_letOwnedTupleGo_zip (s:={s with heap:=h'}) a1 λh'' m1 m2=>?_
  have lt:∀ {c o},s.heap.get? c=some o->s.heap.objs.size≠c:=λe=>cW (aA e)
  have keep:∀ b o,b∉ [z,TI,TO,i1,i2]->s.heap.get? b=some o->h''.get? b=some o:=λb o hb q=>m2.extBut b o (λz=>hb (by simp[z])) (hk b o (λz=>hb (by simp[z])) (λz=>hb (by simp[z])) (λz=>hb (by simp[z])) (λz=>hb (by simp[z])) q)
  have ht:h''.get? s.heap.objs.size=some {cls:=.type "tuple",data:=.seq [u,v].toArray} :=m2.extBut _ _ (lt hz) a5
  have J1:Inv X pins σ (upd H s.heap.objs.size (.tup [x,y])) {s with heap:=h'',toks:=s.toks} :=Inv.rY I hf keep (.cons ru (.cons rv' .nil)) (by show 2<=sizeLine;decide) ht
  have hn:H s.heap.objs.size=none:=I.fresh
  refine⟨.ref s.heap.objs.size,_,J1,rfl,⟨_,hn,rfl,λxs' ys' x' y' q1 q2 q3 q4=>?_⟩,⟨m1,?_,⟨_,_,m2.extBut _ _ D.TOz a2⟩,a3.extBut m2.extBut D.i1z,a4.extBut m2.extBut D.i2z⟩,λc hb=>?_⟩
  ·have e1:=I.nW q1 hx
   have e2:=I.nW q2 hy
   subst e1 e2
   rw[ex]at q3
   rw[ey]at q4
   cases q3
   cases q4
   rfl
  ·exact m2.extBut _ _ D.TIz (hk _ _ D.TIz D.TITO D.TIi1 D.TIi2 h1)
  ·have q:∃ o,s.heap.get? c=some o:=by
    obtain⟨o3,q3,_,d3⟩:=h3
    obtain⟨o4,q4,_,d4⟩:=h4
    have hb':=hb
    simp only[aE,cT,or_false]at hb'
    rcases hb' with rfl |rfl |rfl |rfl |rfl
    ·exact⟨_,hz⟩
    ·exact⟨_,h1⟩
    ·exact⟨_,h2⟩
    ·exact⟨_,q3⟩
    ·exact⟨_,q4⟩
   obtain⟨o,q⟩:=q
   rw[fK (aL (aA q))]
   exact(hf c hb).1
 done:=by
  intro X hP hw hK hc i pins s σ H E I hf st hg
  subst hP hw hK
  obtain⟨hz,h1,⟨u0,v0,h2⟩,h3,h4⟩:=st
  obtain⟨xs,ys,hx,hy,e⟩:=hg
  obtain⟨its,rv,p,hzx⟩:=I.list hx
  obtain⟨jts,rw',p',hzy⟩:=I.list hy
  have l1:=rv.length
  have l2:=rw'.length
  refine wpAny_pyNext_zip_end (I.ok.hd hc) D hz h1 h2 h3 h4 p.isList p'.isList ?_ λh' hk=>⟨rfl,Inv.FP (t':=s.toks) I hf λb o hb q=>hk b o (λz=>hb (by simp[z])) (λz=>hb (by simp[z])) (λz=>hb (by simp[z])) (λz=>hb (by simp[z])) q⟩
  rcases e with e |e
  ·left;simp;omega
  ·right;simp;omega
 self:=λ_ _ _ _ _ ⟨hz,_⟩ h=>wpAny_pyIter_zip hz h
section
variable {X:Cx}
noncomputable def O6 (K:PySem.W.Frag)(ta:TA):TI:=λσ H R=>ta σ H λvs H1=>∃ a b,vs = [.ref a,.ref b]/\(∃ xs,SqL K H1 a xs)/\(∃ ys,SqL K H1 b ys)/\R (Itz K a b) H1
theorem HU {a b:Expr}{ta:TA}{p pos:Pos}{es:List Expr}{x1:Nat}{pt:Pos}(hg:Gl X "zip")(hm:X.mg "zip" = none)(ha:PA X [a,b] ta)(hs:starEach [a,b] X.env = [(false,eval a X.env),(false,eval b X.env)]:=by rfl)(hs2:starEach [b] X.env = [(false,eval b X.env)]:=by rfl):
  PI X (.Tuple es x1 pt) (.Call (.Name "zip" p) [a,b] [] pos) (O6 X.K ta):=by
 intro pins s σ H R I h
 refine Call_ (pf I hg hm boot_zip (bZ (thn (ha pos pins s σ H _ I h) λus s1 ⟨vs,H1,I1,r1,q1⟩=>?_) (by rw[hs,hs2]) (by rw[hs2];rfl)))
 obtain⟨a,b,e,⟨xs,hx⟩,⟨ys,hy⟩,q⟩:=q1
 subst e
 obtain⟨u,v,rfl,ru,rv⟩:=vals2 r1
 cases ru
 cases rv
 obtain⟨its,rv,p,hzx⟩:=I1.list hx
 obtain⟨jts,rw',p',hzy⟩:=I1.list hy
 have la:a<s1.heap.objs.size:=by obtain⟨o,n,e,_⟩:=p;exact aA e
 have lb:b<s1.heap.objs.size:=by obtain⟨o,n,e,_⟩:=p';exact aA e
 refine call_zip_2 p.isList p'.isList λh' k1 k2 k3 k4 k5 k6 k7=>?_
 refine wpAny_pyIter_zip (s:={s1 with heap:=h'}) k1 ?_
 have D:ZipApart (s1.heap.objs.size+4) (s1.heap.objs.size+2) (s1.heap.objs.size+3) s1.heap.objs.size (s1.heap.objs.size+1) a b:=by
  generalize s1.heap.objs.size=z at la lb
  have la':@LT.lt Nat _ a z:=la
  have lb':@LT.lt Nat _ b z:=lb
  constructor<;>first |exact(show @Ne Nat _ _ by omega)
 refine⟨s1.heap.objs.size+4,[s1.heap.objs.size+4,s1.heap.objs.size+2,s1.heap.objs.size+3,s1.heap.objs.size,s1.heap.objs.size+1],_,_,H1,rfl,I1.kept (t':=s1.toks) k7,Dx D,⟨k1,k2,⟨_,_,k3⟩,k4,k5⟩,λc hc=>?_,q⟩
 have hb':s1.heap.objs.size<=c:=by
  simp only[aE,cT,or_false]at hc
  rcases hc with rfl |rfl |rfl |rfl |rfl
  ·exact dE _ _
  ·exact dE _ _
  ·exact dE _ _
  ·exact ar _
  ·exact dE _ _
 exact I1.AW hb' (I1.hok.fresh hb')
theorem GB {K:PySem.W.Frag}{a b:Addr}{xs ys:List V}{g:TG}{tb:TS}{D:Ends}{σ:St}(n:Nat)(hn:n=min xs.length ys.length)(Pv:Nat->St->Hp->Prop)(h0:Pv 0 σ H)(hl:∀ i σ H,i<=n->Pv i σ H->SqL K H a xs/\SqL K H b ys)
  (hs:∀ i x y σ H p,xs[i]? = some x->ys[i]? = some y->Pv i σ H->H p=none->g (.ref p) σ (upd H p (.tup [x,y])) λσ2 H2=>tb {D with nx:=Pv (i+1),ct:=Pv (i+1),bk:=D.nx} σ2 H2) (hd:∀ σ H,Pv n σ H->D.nx σ H):
  ∃ W:Nat->Nat->St->Hp->Prop,(∃ m,W 0 m σ H)/\∀ i m σ H,W i m σ H->
   ((Itz K a b).stop i H/\D.nx σ H)\/((Itz K a b).go i H/\∃ N:St->Hp->Prop,(∀ σ' H',N σ' H'->∃ m',m'<m/\W (i+1) m' σ' H')/\∀ x H',(Itz K a b).yld i H x H'->g x σ H' λσ2 H2=>tb {D with nx:=N,ct:=N,bk:=D.nx} σ2 H2):=by
 refine⟨λi m σ H=>m=n-i/\i<=n/\Pv i σ H,⟨n,by simp,aI _,h0⟩,?_⟩
 rintro i m σ H ⟨rfl,hi,p⟩
 obtain⟨q1,q2⟩:=hl i σ H hi p
 by_cases hlt:i<n
 ·have h1:i<xs.length:=by omega
  have h2:i<ys.length:=by omega
  refine .inr ⟨⟨xs,ys,xs[i],ys[i],q1,q2,by simp[h1],by simp[h2]⟩,Pv (i+1),λσ' H' p'=>⟨n-(i+1),by omega,rfl,hlt,p'⟩,λx H' y=>?_⟩
  obtain⟨pa,hp,e,y⟩:=y
  subst e
  have hx:xs[i]? = some xs[i]:=by simp[h1]
  have hy:ys[i]? = some ys[i]:=by simp[h2]
  rw[y xs ys _ _ q1 q2 hx hy]
  exact hs i _ _ σ H pa hx hy p hp
 ·have e:i=n:=by omega
  subst e
  exact .inl ⟨⟨xs,ys,q1,q2,by omega⟩,hd σ H p⟩
theorem tj:∀ {bs:List Bool}{us:List Value},Vals (bs.map V.bl) us->us=bs.map Value.bool
 |[],_,.nil=>rfl
 |b::bs,_,.cons r t=>by
  cases r
  rw[tj t];rfl
theorem vA (hc:X.calm=true):kG X (.builtin "all") (λxs H Q=>∃ (a:Addr) (bs:List Bool),xs = [.ref a]/\SqL X.K H a (bs.map V.bl)/\Q (.bl (bs.all id)) H):=by
 intro pins s σ H xs us Q I r h
 obtain⟨a,bs,rfl,hx,q⟩:=h
 obtain⟨u,rfl,ru⟩:=vals1 r
 cases ru
 obtain⟨its,rv,p,hz⟩:=I.list hx
 have e:=tj rv
 subst e
 have hl:=p.isList
 have hlt:a<s.heap.objs.size:=by obtain⟨_,e,_⟩:=hl;exact aA e
 refine call_all_walk (wpAny_pyIter_list hl ?_)
 refine⟨s.heap.objs.size,[s.heap.objs.size,a],[s.heap.objs.size],(bs.map Value.bool).toArray.size,_,_,λi=>(bs[i]?).getD true,rfl,Walks.list (A:=X.A.in1) (I.ok.hd hc) _ a (aL hlt) (bs.map Value.bool).toArray,
  ⟨⟨_,aR _ rfl,rfl,rfl⟩,hl.push _⟩,λi v s' Q' E' hP hQ=>?_,λh' tk hk=>?_⟩
 ·have hP':(bs.map Value.bool)[i]? = some v:=by simpa using hP
  rw[ah]at hP'
  cases q:bs[i]? with
  |none=>rw[q]at hP';cases hP'
  |some b=>
   rw[q]at hP'
   cases hP'
   have hQ':Q' b s':=by simpa [q]using hQ
   exact cS hQ'
 ·have e:((List.range (bs.map Value.bool).toArray.size).all λi=>(bs[i]?).getD true)=bs.all id:=by
   rw[aK,aa];exact PyProof.Rows.LSm.range_all bs
  rw[e]
  have kk:∀ b x,s.heap.get? b=some x->h'.get? b=some x:=λb x e=>hk b x (λhm=>by rw[bH.mp hm]at e;exact di _ (aA e)) (ax _ e)
  exact⟨.bl (bs.all id),H,I.kept (t':=tk) kk,rfl,q⟩
end
section
variable {K:PySem.W.Frag}{l:Addr}{g:TG}{tt:TT}{te:TE}{cap:List (Option Nat)}{σ:St}{Q:VK}{H1:Hp}{J:It}
theorem uY (n:Nat)(Pv:Nat->List V->Hp->Prop)(h0:Pv 0 [] (upd H1 l (.lst [])))(go:∀ i acc H,i<n->Pv i acc H->J.go i H)(st:∀ acc H,Pv n acc H->J.stop n H)
  (hs:∀ i x acc H H',i<n->Pv i acc H->J.yld i H x H'->g x (iF cap σ) H' λσ2 H2=>tt σ2 H2 λb H3=>
    if b=true then te σ2 H3 λy H4=>H4 l=some (.lst acc)/\acc.length<sizeLine/\Pv (i+1) (acc ++ [y]) (upd H4 l (.lst (acc ++ [y])))
    else Pv (i+1) acc H3) (hd:∀ acc H,Pv n acc H->Q (.ref l) H):LcW J g tt te cap σ Q l H1:=by
 refine⟨λi m acc H=>m=n-i/\i<=n/\Pv i acc H,⟨n,by simp,aI _,h0⟩,?_⟩
 rintro i m acc H ⟨rfl,hi,p⟩
 by_cases hlt:i<n
 ·exact .inr ⟨go i acc H hlt p,λvZ H'=>Pv (i+1) vZ H',λvZ H' p'=>⟨n-(i+1),by omega,rfl,hlt,p'⟩,λx H' y=>hs i x acc H H' hlt p y⟩
 ·have e:i=n:=by omega
  subst e
  exact .inl ⟨st acc H p,hd acc H p⟩
theorem tP {α:Type}(n:Nat)(ds:List α)(p:α->Bool)(f:α->V)(hn:H1 l=none)(hlen:n=ds.length)(hz:n<sizeLine)(go:∀ i H,fL H1 H->i<n->J.go i H)(st:∀ H,fL H1 H->J.stop n H)
  (hs:∀ i x d H H',fL H1 H->J.yld i H x H'->ds[i]? = some d->∀ (P1:VK) (P0:Hp->Prop),(∀ H2,p d=true->fL H H2->P1 (f d) H2)->(∀ H2,p d=false->fL H H2->P0 H2)->
   g x (iF cap σ) H' λσ2 H2=>tt σ2 H2 λb H3=>if b=true then te σ2 H3 P1 else P0 H3)
  (hq:∀ H',fL H1 H'->H' l=some (.lst ((ds.filter p).map f))->Q (.ref l) H'):LcW J g tt te cap σ Q l H1:=by
 refine uY n (λi acc H=>acc=((ds.take i).filter p).map f/\fL H1 H/\H l=some (.lst acc)) ⟨rfl,fF hn,fE⟩ (λi acc H hi ⟨_,s,_⟩=>go i H s hi) (λacc H ⟨_,s,_⟩=>st H s) ?_ ?_
 ·rintro i x acc H H' hi ⟨e1,s,hl⟩ y
  have hd:ds[i]? = some (ds[i]'(by omega)):=by simp
  generalize ds[i]'(by omega)=d at hd
  have step:((ds.take (i+1)).filter p).map f=acc++(if p d=true then[f d]else[]):=by
   rw[aV,hd,List.filter_append,av,e1]
   congr 1
   by_cases hp:p d=true
   ·simp[hp]
   ·have hp':p d=false:=by simpa using hp
    simp[hp']
  have la:acc.length<sizeLine:=by
   have h1:acc.length<=i:=by
    rw[e1,aa]
    exact bw (bS _ _) (by rw[aM];omega)
   omega
  refine hs i x d H H' s y hd _ _ (λH2 hp s2=>?_) (λH2 hp s2=>?_)
  ·refine⟨s2 _ _ hl,la,?_,fL.upd (s.trans s2) hn,fE⟩
   rw[step,aQ hp]
  ·refine⟨?_,s.trans s2,s2 _ _ hl⟩
   rw[step,aG (by rw[hp];exact aB),dS]
 ·rintro acc H ⟨e1,s,hl⟩
  rw[cj (by omega)]at e1
  subst e1
  exact hq H s hl
end
noncomputable def DJ (S:Int->Bool)(k:Int):Int->Bool:=λk'=>S k'||decide (k'=k)
noncomputable def Er (S:Int->Bool)(n:Nat)(k:Int):Nat:=if S k=true then n else n+1
section
variable {X:Cx}{pins:List (Addr×Obj)}{σ:St}{H:Hp}{s:Shared}
theorem Inv.setM {l:Addr}{S:Int->Bool}{n:Nat}(I:Inv X pins σ H s)(h:H l=some (.set S n)):s.heap.SetOf (intKind X.prog X.w) l S n:=I.hok l _ h
theorem isInt_self (k:Int)(t:Tok):Value.isInt k (.int k t)=true:=by simp[Value.isInt]
noncomputable def JO:V->List V->Hp->VK->Prop:=λx vs H Q=>∃ l S n k,x = .ref l/\vs = [.int k]/\H l=some (.set S n)/\n+1<scanBound/\Q .non (upd H l (.set (DJ S k) (Er S n k)))
theorem Gi:MtR X "set.add" JO:=by
 intro pins s σ H x vs v us Q I rx rv h
 obtain⟨l,S,n,k,rfl,rfl,hH,hb,q⟩:=h
 cases rx
 obtain⟨u,rfl,t,rfl⟩:=rv.one
 have hS:=Inv.setM I hH
 refine call_set_add (knd:=intKind X.prog X.w) (k:=k) (isInt_self k t) rfl hS hb λh' sb hS'=>?_
 refine⟨.non,_,I.write (t':=s.toks+1) (o:=.set (DJ S k) (Er S n k)) (x:=l) (e:=l) (by rw[hH];exact trivial) (.inl rfl) (λb u hb e=>sb.extBut b u hb e) ?_ ?_,rfl,q⟩
 ·obtain⟨o,_,_,_,e,_⟩:=hS';exact⟨o,e⟩
 ·exact hS'
theorem Dj:kG X (.builtin "len") (λxs H Q=>∃ p S n,xs = [.ref p]/\H p=some (.set S n)/\Q (.int n) H):=by
 intro pins s σ H xs us Q I r h
 obtain⟨p,S,n,rfl,hH,q⟩:=h
 obtain⟨u,rfl,rx⟩:=vals1 r
 cases rx
 obtain⟨o,es,ep,t,e,hex,hd,hel,hm,hb,hf,hn⟩:=Inv.setM I hH
 refine call_len_set e hex hd hf ?_ ⟨.int n,H,I.tok _,⟨_,by rw[hn]⟩,q⟩
 have:scanBound=4096:=rfl
 omega
end
section
variable {X:Cx}{pins:List (Addr×Obj)}{σ:St}{H1:Hp}{s2:Shared}{scope:Scope}{N:List Str}{own:Nat}{cap:List (Option Nat)}{cl:List (Str×Addr)}{fp:List Addr}
 {tg iter elt:Expr}{ifs:List Expr}{pos:Pos}{g:TG}{tt:TT}{te:TE}{wi:TI}
noncomputable def ScW (J:It)(g:TG)(tt:TT)(te:TE)(cap:List (Option Nat))(σ:St)(Q:VK)(l:Addr)(H1:Hp):Prop:=
 ∃ W:Nat->Nat->Hp->Prop,(∃ m,W 0 m (upd H1 l (.set (λ_=>false) 0)))/\∀ i m H,W i m H->
  (J.stop i H/\Q (.ref l) H)\/(J.go i H/\∃ N:Hp->Prop,(∀ H',N H'->∃ m',m'<m/\W (i+1) m' H')/\
   ∀ x H',J.yld i H x H'->g x (iF cap σ) H' λσ2 H2=>tt σ2 H2 λb H3=>
    if b=true then te σ2 H3 λy H4=>∃ S n k,y = .int k/\H4 l=some (.set S n)/\n+1<scanBound/\N (upd H4 l (.set (DJ S k) (Er S n k)))
    else N H3)
noncomputable def tSC (wi:TI)(cap:List (Option Nat))(g:TG)(tt:TT)(te:TE):TE:=λσ H Q=>wi σ H λJ H1=>∀ l,H1 l=none->
 ScW J g tt te cap σ Q l H1
theorem Dd {it:Addr}{tn:Nat->Heap->Prop}{J:It}{Q:VK}{RR:Value->Addr->Result->Shared->Prop}{E:Value->Shared->Prop}(I:Inv X pins σ H1 s2)(T:Turn X.prog X.w X.K tg J fp it tn)(t0:tn 0 s2.heap)
  (f:∀ b∈fp,lS X pins H1 b) (hc:X.calm=true) (C:gF X.env.scope X.N scope N own cap) (ho:qj own g)
  (jX:∀ x c,cl.lookup x=some c->X.env.cells.lookup x=some c) (mh:∀ y∈scope.names,y.2 = .free->∃ c,cl.lookup y.1=some c)
  (hg:∀ s3 H3,PG (fU X scope cl N fp s3 H3) tg g) (ht:∀ s3 H3,sE (fU X scope cl N fp s3 H3) ifs tt) (he:∀ s3 H3,PE (fU X scope cl N fp s3 H3) elt te)
  (hw:∀ l,H1 l=none->ScW J g tt te cap σ Q l H1)
  (fin:∀ l C s' H' m',Inv X pins σ H' s'->s'.heap.Ns C m'->H' C=none->Apart X pins C->Q (.ref l) H'->RR (.ref l) C (.ok .next) s'):
  wpAny (model X.prog X.w) X.A (newSet (.type "set")) (λacc s₃=>wpAny (model X.prog X.w) X.A (newFunctionEnv scope X.env.globals cl [] X.env.qual none .none (some X.env)) (λrL s₄=>
   codeAny (model X.prog X.w) X.A (.compStart (.SetComp elt [⟨tg,iter,ifs,0⟩] scope pos) 0 (.ref it) acc {rL with scope:=relabel scope X.env}) (RR acc rL.locals) s₄) E s₃) E s2:=by
 refine wpAny_newSet_of (knd:=intKind X.prog X.w) λled Kr=>?_
 refine dO C.sk (by intro y hy;simp at hy) (λh₁ jk jj=>?_) C.kind
 dsimp only at jk jj ⊢
 obtain⟨W,⟨m0,w0⟩,turn⟩:=hw s2.heap.objs.size I.fresh
 have I3:Inv X pins σ (upd H1 s2.heap.objs.size (.set (λ_=>false) 0)) {s2 with heap:=s2.heap.push {cls:=.type "set",dict:=none,data:=.set #[] 0 (.fresh 0 0 led)}} :=
  I.laid (t':=s2.toks) (λb u e=>ax _ e) (ar _) Kr
 generalize hs3:({s2 with heap:=s2.heap.push {cls:=.type "set",dict:=none,data:=.set #[] 0 (.fresh 0 0 led)}} :Shared)=s3 at I3
 have hh3:s3.heap=s2.heap.push {cls:=.type "set",dict:=none,data:=.set #[] 0 (.fresh 0 0 led)} :=by rw[<-hs3]
 rw[<-hh3]at jk jj ⊢
 have e4:({s2 with heap:=h₁,toks:=s2.toks+([]:List (Str×Value)).length} :Shared) = {s3 with heap:=h₁,toks:=s2.toks} :=by rw[<-hs3];rfl
 rw[e4]
 have k4:∀ b u,s3.heap.get? b=some u->h₁.get? b=some u:=λb u e=>jj.extBut b u (aL (aA e)) (ax _ e)
 have k3:∀ b u,s2.heap.get? b=some u->s3.heap.get? b=some u:=λb u e=>by rw[hh3];exact ax _ e
 have hb2:∀ b∈fp,b<s2.heap.objs.size:=λb hb=>by obtain⟨o,e,_⟩:=T.obj _ _ t0 b hb;exact aA e
 have f3:∀ b∈fp,lS X pins (upd H1 s2.heap.objs.size (.set (λ_=>false) 0)) b:=λb hb=>by
  obtain⟨f0,fr⟩:=f b hb
  exact⟨by rw[fK (aL (hb2 b hb))];exact f0,fr⟩
 have hb3:∀ b∈fp,b<s3.heap.objs.size:=λb hb=>by obtain⟨o,e,_⟩:=T.obj _ _ t0 b hb;exact aA (k3 b o e)
 have I4:=pg (tk:=s2.toks) I3 C jX mh (λb hb=>⟨f3 b hb,hb3 b hb⟩) jk k4
 generalize hH3:upd H1 s2.heap.objs.size (.set (λ_=>false) 0)=H3 at *
 have st4:tn 0 h₁:=T.keep _ _ _ t0 λb hb o e=>k4 b o (k3 b o e)
 have fpX:∀ {H':Hp},(∀ b∈fp,H' b=none)->∀ b∈fp,lS (fU X scope cl N fp s3 H3) [] H' b:=λ{H'} hn b hb=>by
  obtain⟨f0,f1,f2,f3',f4,f5⟩:=f3 b hb
  refine⟨hn b hb,aL (hb3 b hb),λhz=>?_,.inl hb,λx c e=>f4 x c (jX x c e),λp hp=>absurd (show p∈([]:List (Addr×Obj)) from hp) (by simp)⟩
  rcases aE.mp (I3.nv b hz)with z |z
  ·exact f1 z
  ·exact f2 z
 have loop:codeAny (model X.prog X.w) X.A (.compLoop (.SetComp elt [⟨tg,iter,ifs,0⟩] scope pos) 0 (.ref it) (.ref s2.heap.objs.size) (compEnvC scope cl s3.heap.objs.size X.env)) (RR (.ref s2.heap.objs.size) s3.heap.objs.size) {s3 with heap:=h₁,toks:=s2.toks} :=by
  refine rJ (λn s'=>∃ i H',Inv (fU X scope cl N fp s3 H3) [] (iF cap σ) H' s'/\tn i s'.heap/\(∀ b∈fp,H' b=none)/\W i n H') ?_ m0 ⟨0,H3,I4,st4,λb hb=>(f3 b hb).1,w0⟩
  rintro n s' ⟨i,H',I',st,fr,w⟩
  rcases turn i n H' w with⟨stop,q⟩|⟨go,NN,hNN,step⟩
  ·refine thn (T.done (fU X scope cl N fp s3 H3) rfl rfl rfl hc i [] s' _ H' (λ_ _=>False) I' (fpX fr) st stop) λr s5 ⟨hr,I5⟩=>?_
   subst hr
   obtain⟨m5,hn5,_⟩:=id I5.loc
   exact fin _ _ s5 H' m5 (comp_back I3 f3 I5) hn5 I5.free (TL.Inv.apart I3) q
  ·refine thn (T.item (fU X scope cl N fp s3 H3) rfl rfl rfl hc i [] s' _ H' (λ_ _=>False) I' (fpX fr) st go) λr s5 ⟨u,hr,h5⟩=>?_
   subst hr
   refine thn h5 λ_ s6 ⟨x,H6,I6,r6,y6,st6,fr6⟩=>?_
   have I6':=I6.pinned (fpX fr6) (T.obj _ _ st6)
   refine thn (hg s3 H3 _ s6 _ H6 x u _ I6' r6 (ho.own _ _ _ _ (step x H6 y6))) λ_ s7 ⟨σ7,H7,I7,q7,l7,o7⟩=>?_
   have cov:∀ (i:Nat) v,(iF cap σ)[i]? = some (some v)->σ7[i]? = some (some v):=λi v e=>by
    obtain⟨j,c1,c2⟩:=my e
    by_cases hi:i<own
    ·exact(C.o8 hi c1).elim
    ·rw[o7 i (by omega)];exact e
   have back:∀ {H8:Hp}{s8:Shared},Inv (fU X scope cl N fp s3 H3) ([]++ox fp s6.heap) σ7 H8 s8->Inv (fU X scope cl N fp s3 H3) [] (iF cap σ) H8 s8/\tn (i+1) s8.heap/\∀ b∈fp,H8 b=none:=λ{H8 s8} I8=>by
    refine⟨(Inv.lF (pins:=[]) I8).weak l7.symm cov,T.keep _ _ _ st6 λb hb o e=>(I8.pin (b,o) (az _ (az _ (iI hb e)))).1,λb hb=>?_⟩
    obtain⟨o,e,d⟩:=T.obj _ _ st6 b hb
    exact(I8.pin (b,o) (az _ (az _ (iI hb e)))).2.1
   refine thn (ht s3 H3 _ s7 σ7 H7 _ I7 q7) λb s8 ⟨H8,I8,q8⟩=>?_
   cases b with
   |false=>
    rw[aG aB]at q8 ⊢
    obtain⟨m',hm,w8⟩:=hNN _ q8
    obtain⟨J1,J2,J3⟩:=back I8
    exact⟨m',hm,i+1,H8,J1,J2,J3,w8⟩
   |true=>
    rw[aQ rfl]at q8 ⊢
    refine thn (he s3 H3 _ s8 σ7 H8 _ I8 q8) λv s9 ⟨y,H9,I9,r9,S,nn,k,ey,ha,hz,n9⟩=>?_
    obtain⟨m',hm,w9⟩:=hNN _ n9
    subst ey
    refine thn (Gi _ s9 σ7 H9 (.ref s2.heap.objs.size) [.int k] (.ref s2.heap.objs.size) [v] (λ_ H10=>W (i+1) m' H10) I9 rfl (.cons r9 .nil) ⟨_,S,nn,k,rfl,rfl,ha,hz,w9⟩) λ_ s10 ⟨_,H10,I10,_,w10⟩=>?_
    obtain⟨J1,J2,J3⟩:=back I10
    exact⟨m',hm,i+1,H10,J1,J2,J3,w10⟩
 exact qt loop (T.self X.A 0 _ _ _ st4 loop)
theorem JW (hi:PI X tg iter wi)(hc:X.calm=true)(C:gF X.env.scope X.N scope N own cap)(ho:qj own g)
  (hg:∀ cl fp s3 H3,PG (fU X scope cl N fp s3 H3) tg g) (ht:∀ cl fp s3 H3,sE (fU X scope cl N fp s3 H3) ifs tt) (he:∀ cl fp s3 H3,PE (fU X scope cl N fp s3 H3) elt te)
  (hs:∀ x,foldedSetIterable iter X.env x=pure x:=by intro _;rfl):PE X (.SetComp elt [⟨tg,iter,ifs,0⟩] scope pos) (tSC wi cap g tt te):=by
 intro pins s σ H Q I h
 obtain⟨cl,ecl,jX,mh⟩:=kW (scope:=scope) (env:=X.env) λy hy hf=>I.ok.has y.1 (C.fre y hy hf)
 rw[arm_eval_SetComp]
 refine cA (use:=none) rfl hs ecl C.kind C.loc (thn (hi pins s σ H _ I h) λxv s1 h1=>thn h1 λitv s2 h2=>?_)
 obtain⟨it,fp,tn,J,H2,e,I2,T,st2,f2,hw⟩:=h2
 subst e
 refine Dd (RR:=λacc C=>compPost (model X.prog X.w) X.A X.xe none (EP X pins σ Q) acc C) I2 T st2 f2 hc C ho jX mh (hg cl fp) (ht cl fp) (he cl fp) hw λl Ca s' H' m' I' hn kL hP q=>?_
 exact⟨m',hn,λh'' vg=>⟨.ref l,H',mx I' hP kL vg,rfl,q⟩⟩
end
noncomputable def dn (ks:List Int):Nat->Nat
 | 0=>0
 |i+1=>if ks.getD i 0∈ks.take i then dn ks i else dn ks i+1
theorem BS (ks:List Int):∀ i,dn ks i<=i
 | 0=>ar _
 |i+1=>by
  have:=BS ks i
  unfold dn
  split<;>omega
theorem Hk {ks:List Int} :∀ {i},dn ks i=i↔∀ j,j<i->ks.getD j 0∉ks.take j
 | 0=>⟨λ_ j h=>absurd h (Nat.not_lt_zero j),λ_=>rfl⟩
 |i+1=>by
  have h1:=BS ks i
  have h2:=@Hk ks i
  unfold dn
  constructor
  ·intro h j hj
   split at h
   ·omega
   ·rcases fw.mp hj with z |z
    ·exact h2.mp (by omega) j z
    ·subst z;assumption
  ·intro h
   rw[aG (h i (by omega)),h2.mpr λj hj=>h j (by omega)]
theorem AF (ks:List Int):ks.Nodup↔∀ j,j<ks.length->ks.getD j 0∉ks.take j:=by
 constructor
 ·intro h j hj hm
  obtain⟨i,hi,e⟩:=bF.mp hm
  rw[aM]at hi
  rw[ft]at e
  have e2:ks.getD j 0=ks[j]:=by rw[aF,ag hj];rfl
  rw[e2]at e
  have:=(cE h).mp e
  omega
 ·intro h
  rw[List.Nodup,dH]
  intro i j hi hj hij e
  refine h j hj ?_
  have e2:ks.getD j 0=ks[j]:=by rw[aF,ag hj];rfl
  rw[e2,<-e]
  exact bF.mpr ⟨i,by rw[aM];omega,by rw[ft]⟩
theorem Fc (ks:List Int):dn ks ks.length=ks.length↔ks.Nodup:=Hk.trans (AF ks).symm
theorem Hj (ks:List Int):dn ks ks.length<ks.length↔¬ks.Nodup:=by
 rw[<-Fc]
 have:=BS ks ks.length
 omega
theorem take_snoc {ks:List Int}{i:Nat}(hi:i<ks.length):ks.take (i+1)=ks.take i ++ [ks.getD i 0]:=by
 rw[aV,aF,ag hi];rfl
theorem Cs {ks:List Int}{i:Nat}(hi:i<ks.length):DJ (λk=>decide (k∈ks.take i)) (ks.getD i 0) = λk=>decide (k∈ks.take (i+1)):=by
 funext k
 rw[take_snoc hi]
 simp[DJ]
theorem CH (ks:List Int)(i:Nat):Er (λk=>decide (k∈ks.take i)) (dn ks i) (ks.getD i 0)=dn ks (i+1):=by
 unfold Er
 rw[dn]
 by_cases h:ks.getD i 0∈ks.take i
 ·rw[aQ h,aQ (by simpa using h)]
 ·rw[aG h,aG (by simpa using h)]
section
variable {l:Addr}{g:TG}{tt:TT}{te:TE}{cap:List (Option Nat)}{σ:St}{Q:VK}{H1:Hp}{J:It}
theorem DI {α:Type}{n:Nat}{it:Nat->V->Prop}(S:JS J n H1 it)(ds:List α)(f:α->Int)(hn:H1 l=none)(hlen:n=ds.length)(hz:n+1<scanBound)
  (hs:∀ (i:Nat) x d H,it i x->ds[i]? = some d->fL H1 H->∀ (P1:VK) (P0:Hp->Prop),P1 (.int (f d)) H->
   g x (iF cap σ) H λσ2 H2=>tt σ2 H2 λb H3=>if b=true then te σ2 H3 P1 else P0 H3)
  (hq:Q (.ref l) (upd H1 l (.set (λk=>decide (k∈ds.map f)) (dn (ds.map f) n)))):ScW J g tt te cap σ Q l H1:=by
 refine⟨λi m H=>m=n-i/\i<=n/\H=upd H1 l (.set (λk=>decide (k∈(ds.map f).take i)) (dn (ds.map f) i)),⟨n,by simp,aI _,?_⟩,?_⟩
 ·congr 2
 rintro i m H ⟨rfl,hi,e2⟩
 have sm:fL H1 H:=by rw[e2];exact fF hn
 by_cases hlt:i<n
 ·refine .inr ⟨S.go i H sm hlt,λH'=>H'=upd H1 l (.set (λk=>decide (k∈(ds.map f).take (i+1))) (dn (ds.map f) (i+1))),λH' p2=>⟨n-(i+1),by omega,rfl,hlt,p2⟩,λx H' y0=>?_⟩
  obtain⟨e,y⟩:=S.yld i H x H' sm hlt y0
  clear y0
  subst e
  have hd:ds[i]? = some (ds[i]'(by omega)):=by simp
  generalize ds[i]'(by omega)=d at hd
  refine hs i x d H' y hd sm _ _ ⟨_,_,f d,rfl,by rw[e2];exact fE,?_,?_⟩
  ·have:=BS (ds.map f) i
   omega
  ·have e3:(ds.map f).getD i 0=f d:=by rw[aF,ah,hd];rfl
   have h1:=Cs (ks:=ds.map f) (i:=i) (by rw[aa];omega)
   have h2:=CH (ds.map f) i
   rw[e3]at h1 h2
   rw[h1,h2,e2,qK]
 ·have e:i=n:=by omega
  subst e
  refine .inl ⟨S.stop H sm,?_⟩
  rw[e2,cj (by rw[aa];omega)]
  exact hq
end
noncomputable def hid (p:Addr)(H:Hp):Hp:=λb=>if b=p then none else H b
variable {p:Addr}
theorem ja:fL (hid p H) H:=λb o h=>by
 unfold hid at h
 by_cases e:b=p
 ·rw[aQ e]at h;cases h
 ·rw[aG e]at h;exact h
theorem gS {b:Addr}(h:b≠p):hid p H b=H b:=by unfold hid;rw[aG h]
theorem kB:hid p H p=none:=by unfold hid;rw[aQ rfl]
theorem pj {H':Hp}(s:fL H H'):fL (hid p H) (hid p H'):=λb o h=>by
 by_cases e:b=p
 ·subst e;rw[kB]at h;cases h
 ·rw[gS e]at h ⊢;exact s _ _ h
theorem pX {o:HO} :hid p (upd H p o)=hid p H:=by
 funext b
 by_cases e:b=p
 ·subst e;rw[kB,kB]
 ·rw[gS e,gS e,fK e]
theorem qT {H':Hp}(s:fL H H')(hn:H p=none):fL H (hid p H'):=λb o h=>by
 rw[gS (fN h hn)];exact s _ _ h
theorem tQ {K:PySem.W.Frag}{a:Addr}{vs xs:List V}(hp:H p=some (.lst vs))(h:SqT K H a xs):SqT K (hid p H) a xs:=by
 rcases h with(h |⟨o,h⟩)|h
 ·exact .inl (.inl (by rw[gS (gy h hp (by intro z;cases z))];exact h))
 ·exact .inl (.inr ⟨o,by rw[gS (gy h hp (by intro z;cases z))];exact h⟩)
 ·exact .inr h
theorem Fg (xs:List V){i:Int}(h:0<=i):oQ xs none (some i)=xs.take i.toNat:=by
 unfold oQ
 rw[HT.qW]
 have e:HT.sIx xs.length xs.length (some i)=min i.toNat xs.length:=by
  have:=HT.Bs xs.length xs.length i.toNat
  rw[show((i.toNat:Nat):Int)=i by omega]at this
  exact this
 rw[e,List.drop_zero,Nat.sub_zero]
 by_cases h2:i.toNat<=xs.length
 ·rw[Nat.min_eq_left h2]
 ·rw[Nat.min_eq_right (by omega),cj (ar _),cj (by omega)]
section
variable {L T:Addr->List V->Prop}
theorem Dgs.take:∀ {ds:List PyData}{vs:List V} (i:Nat),Dgs L T ds vs->Dgs L T (ds.take i) (vs.take i)
 |_,_,0,_=>by rw[List.take_zero,List.take_zero];exact gN.mpr rfl
 |[],vs,i+1,h=>by rw[gN.mp h];exact gN.mpr rfl
 |d::ds,vs,i+1,h=>by
  obtain⟨v,r,rfl,h1,h2⟩:=gm.mp h
  exact gm.mpr ⟨v,r.take i,rfl,h1,Dgs.take i h2⟩
end
theorem yr {xs:List V}{v:V}{i:Int}(h0:0<=i)(h:xs[i.toNat]? = some v):atI xs i=some v:=by
 have:=p7 h
 rw[show((i.toNat:Nat):Int)=i by omega]at this
 exact this
section
variable {K:PySem.W.Frag}{l:Addr}{g:TG}{tt:TT}{te:TE}{cap:List (Option Nat)}{σ:St}{Q:VK}{H1:Hp}{J:It}
theorem rD {α:Type}(n:Nat)(ds:List α)(d':α->PyData)(hn:H1 l=none)(hlen:n=ds.length)(hz:n<sizeLine)(go:∀ i H,fL H1 H->i<n->J.go i H)(st:∀ H,fL H1 H->J.stop n H)
  (hs:∀ i x d H H',fL H1 H->(∃ us,H l=some (.lst us))->J.yld i H x H'->ds[i]? = some d->∀ (P1:VK) (P0:Hp->Prop),(∀ v H2,fL H H2->Da K (hid l H2) (d' d) v->P1 v H2)->
   g x (iF cap σ) H' λσ2 H2=>tt σ2 H2 λb H3=>if b=true then te σ2 H3 P1 else P0 H3)
  (hq:∀ vs H',fL H1 H'->H' l=some (.lst vs)->Das K (hid l H') (ds.map d') vs->Q (.ref l) H'):LcW J g tt te cap σ Q l H1:=by
 refine uY n (λi acc H=>Das K (hid l H) ((ds.take i).map d') acc/\fL H1 H/\H l=some (.lst acc)) ⟨gN.mpr rfl,fF hn,fE⟩ (λi acc H hi ⟨_,s,_⟩=>go i H s hi) (λacc H ⟨_,s,_⟩=>st H s) ?_ ?_
 ·rintro i x acc H H' hi ⟨e1,s,hl⟩ y
  have hd:ds[i]? = some (ds[i]'(by omega)):=by simp
  generalize ds[i]'(by omega)=d at hd
  refine hs i x d H H' s ⟨_,hl⟩ y hd _ _ (λv H2 s2 dv=>?_)
  have la:=Dgs.length e1
  rw[aa,aM]at la
  refine⟨s2 _ _ hl,by omega,?_,fL.upd (s.trans s2) hn,fE⟩
  rw[pX,aV,hd,av]
  exact Dgs.append (Das.same (pj s2) e1) (Dgs.one dv)
 ·rintro acc H ⟨e1,s,hl⟩
  rw[cj (by omega)]at e1
  exact hq acc H s hl e1
end
open PySem.W
section
variable {X:Cx}{pins:List (Addr×Obj)}{σ:St}{H H3:Hp}{s s3:Shared}{scope:Scope}{N:List Str}{own:Nat}{cap:List (Option Nat)}{cl:List (Str×Addr)}{fp:List Addr}{E:XK}
noncomputable def XC (X:Cx)(scope:Scope)(cl:List (Str×Addr))(N:List Str)(fp:List Addr)(s3:Shared)(H3:Hp)(E:XK):Value->Shared->Prop:=λev s'=>∃ (sT:List (Addr×Obj)) (σ':St) (H':Hp) (s0:Shared),Inv (fU X scope cl N fp s3 H3) sT σ' H' s0/\CXr X.prog X.w X.base X.stack H' s0 E ev s'
noncomputable abbrev La (X:Cx)(scope:Scope)(cl:List (Str×Addr))(N:List Str)(fp:List Addr)(s3:Shared)(H3:Hp)(E:XK):Cx:=(fU X scope cl N fp s3 H3).tT (XC X scope cl N fp s3 H3 E)
end
section
variable {X:Cx}{pins:List (Addr×Obj)}{σ:St}{H1:Hp}{s2:Shared}{scope:Scope}{N:List Str}{own:Nat}{cap:List (Option Nat)}{cl:List (Str×Addr)}{fp:List Addr}
 {tg iter elt:Expr}{ifs:List Expr}{pos:Pos}{g:TG}{tt:TT}{te:TE}{wi:TI}{E:XK}
end
end TL
namespace TL
open PySem PySem.Spec PyProof.Rows L2
section
variable {X:Cx}{pins:List (Addr×Obj)}{σ:St}{H:Hp}{s:Shared}{a:Addr}{kvs:List (List Key×V)}
theorem Inv.freeze (I:Inv X pins σ H s)(ha:H a=some (.dT kvs)):∃ o,Inv X pins σ (upd H a (.frz o (.dT kvs))) s:=by
 obtain⟨z,hm,xs,r,o,es,ep,e,c⟩:=I.hok a _ ha
 refine⟨o,?_⟩
 have h0:Inv X pins σ (upd H a (.frz o (.dT kvs))) {s with heap:=s.heap,toks:=s.toks} :=by
  refine I.un (t':=s.toks) ⟨λb o q _ _ _=>q,λb o q _ _ _=>⟨o.slots,q⟩,λb u q n _=>?_,λb o q _=>⟨o,q⟩,λb xs q=>?_,λb u x q=>?_,λb ps q=>⟨#[],?_⟩⟩ λb u q=>?_
  ·rw[fK (bI (fN ha n))];exact n
  ·rw[fK (gy q ha (by intro z;cases z))];exact q
  ·rw[fK (gy q ha (by intro z;cases z))];exact q
  ·rw[fK (gy q ha (by intro z;cases z)),q];simp
  ·have ho:∀ c b',H c=some (.own b')->upd H a (.frz o (.dT kvs)) c=some (.own b'):=λc b' q=>by rw[fK (gy q ha (by intro z;cases z))];exact q
   have ht:∀ c xs,H c=some (.tup xs)->upd H a (.frz o (.dT kvs)) c=some (.tup xs):=λc xs q=>by rw[fK (gy q ha (by intro z;cases z))];exact q
   by_cases hb:b=a
   ·subst hb
    rw[fE]at q
    cases q
    exact⟨e,(I.hok b _ ha).qh (λ_ _ _ q=>q) (λc q=>ho c _ q) ht⟩
   ·rw[fK hb]at q
    exact(I.hok b u q).qh (λ_ _ _ q=>q) (λc q=>ho c _ q) ht
 exact h0
theorem Inv.Il {o:Obj}(I:Inv X pins σ H s)(ha:H a=some (.frz o (.dT kvs)))(h0:∀ o u,X.H₀ a≠some (.frz o u)):Inv X pins σ (upd H a (.dT kvs)) s:=by
 have ne:∀ b,H b=none->b≠a:=λb n=>bI (fN ha n)
 have hu:Un X.fs X.ex X.H₀ (upd H a (.dT kvs)) X.s₀.heap s.heap:=by
  refine⟨I.base.keep,I.base.slot,λb u q n hx=>?_,I.base.there,λb xs q=>?_,λb u x q=>?_,λb ps q=>?_⟩
  ·have:=I.base.free b u q n hx
   rw[fK (ne b this)];exact this
  ·have:=I.base.kH b xs q
   rw[fK (gy this ha (by intro z;cases z))];exact this
  ·have hb:b≠a:=λz=>by subst z;exact h0 _ _ q
   rw[fK hb];exact I.base.oP b u x q
  ·obtain⟨m,e⟩:=I.base.qv b ps q
   exact⟨m,by rw[fK (gy e ha (by intro z;cases z))];exact e⟩
 refine⟨I.ok,I.os,I.bare,hu,I.loc,I.cell,by rw[fK (ne _ I.free)];exact I.free,λx c e=>by rw[fK (ne _ (I.kC x c e))];exact I.kC x c e,λp hp=>?_,λb u q=>?_,I.len⟩
 ·obtain⟨p1,p2,p3⟩:=I.pin p hp
  exact⟨p1,by rw[fK (ne _ p2)];exact p2,p3⟩
 ·have ho:∀ c b',H c=some (.own b')->upd H a (.dT kvs) c=some (.own b'):=λc b' q=>by rw[fK (gy q ha (by intro z;cases z))];exact q
  have ht:∀ c xs,H c=some (.tup xs)->upd H a (.dT kvs) c=some (.tup xs):=λc xs q=>by rw[fK (gy q ha (by intro z;cases z))];exact q
  by_cases hb:b=a
  ·subst hb
   rw[fE]at q
   cases q
   exact(I.hok b _ ha).2.qh (λ_ _ _ q=>q) (λc q=>ho c _ q) ht
  ·rw[fK hb]at q
   exact(I.hok b u q).qh (λ_ _ _ q=>q) (λc q=>ho c _ q) ht
noncomputable def Lk (t:TE):TE:=λσ H Q=>∃ a kvs,H a=some (.dT kvs)/\∀ o,t σ (upd H a (.frz o (.dT kvs))) λv H'=>H' a=some (.frz o (.dT kvs))/\Q v (upd H' a (.dT kvs))
theorem xP {e:Expr}{t:TE}(h:PE X e t):PE X e (Lk t):=by
 intro pins s σ H Q I q
 obtain⟨a,kvs,ha,q⟩:=q
 have h0:∀ o u,X.H₀ a≠some (.frz o u):=λo u z=>by have:=I.base.oP a o u z;rw[ha]at this;cases this
 obtain⟨o,I1⟩:=Inv.freeze I ha
 refine thn (h pins s σ _ _ I1 (q o)) λu s1 ⟨v,H1,I2,r,e1,q1⟩=>⟨v,_,Inv.Il I2 e1 h0,r,q1⟩
noncomputable def Md (t:TS):TS:=λD σ H=>∃ a kvs,H a=some (.dT kvs)/\∀ o,t ⟨λσ' H'=>H' a=some (.frz o (.dT kvs))/\D.nx σ' (upd H' a (.dT kvs)),λv H'=>H' a=some (.frz o (.dT kvs))/\D.rt v (upd H' a (.dT kvs)),λ_ _=>False,λ_ _=>False⟩ σ (upd H a (.frz o (.dT kvs)))
theorem HR {st:Stmt}{t:TS}(h:PS X st t):PS X st (Md t):=by
 intro pins s σ H D I q
 obtain⟨a,kvs,ha,q⟩:=q
 have h0:∀ o u,X.H₀ a≠some (.frz o u):=λo u z=>by have:=I.base.oP a o u z;rw[ha]at this;cases this
 obtain⟨o,I1⟩:=Inv.freeze I ha
 refine thn (h pins s σ _ _ I1 (q o)) λf s1 hf=>?_
 match f,hf with
 |.next,⟨σ',H',I2,e1,q1⟩=>exact⟨σ',_,Inv.Il I2 e1 h0,q1⟩
 |.brk,⟨_,_,_,q1⟩=>exact q1.elim
 |.cont,⟨_,_,_,q1⟩=>exact q1.elim
 |.ret u,⟨v,σ',H',I2,r,e1,q1⟩=>exact⟨v,σ',_,Inv.Il I2 e1 h0,r,q1⟩
end
section
variable {prog:Program}{w:World}{A:Around}{E:Value->Shared->Prop}{s:Shared}{d it:Addr}{o:Obj}{es:Array DictEntry}{ep i:Nat}
theorem nQ (ho:s.heap.get? d=some o)(hx:o.ExactDict):s.TypeIs (.ref d) "dict" :=⟨o,ho,hx.1⟩
theorem wJ {Q:Value->Shared->Prop}(hn:(d==sysModules)=false)(ho:s.heap.get? d=some o)(hx:o.ExactDict)(hd:o.data = .dict es ep)
  (hQ:Q (.ref s.heap.objs.size) {s with heap:=s.heap.push {cls:=.type "dict_keyiterator",data:=.fields #[.ref d,.int 0 0,.int es.size 0,.int ep 0]}}):wpAny (model prog w) A (pyIter (.ref d)) Q E s:=by
 have hT:=nQ ho hx
 refine wpAny_pyIter_slot hT F.slot_dict_iter (bR F.slot_dict_iter hT F.entry_dict_iter ?_ (F.args_dict_iter_1 _))
 unfold Builtin.«dict.__iter__»
 refine ae ?_
 unfold Builtin.Dict.dictSlotNone
 refine ae (wpAny_notOrdered_dict hT (aj ?_))
 show wpAny _ _ (Builtin.Dict.showsAll d >>= _) _ _ s
 unfold Builtin.Dict.showsAll
 rw[aG (by rw[hn];exact aB)]
 refine ae (aj (ae (dG ho hd (ae (en ho hd ?_)))))
 refine ae (bW (aj ⟨_,rfl,"dict_keyiterator",_,⟨_,aR _ rfl,rfl⟩,b9.lookup,?_⟩))
 simpa [rawInt]using hQ
theorem wI {Q:Option Value->Shared->Prop}{e:DictEntry}(hit:s.heap.IsKeyIter it d i es.size ep)(ho:s.heap.get? d=some o)(hd:o.data = .dict es ep)(hx:es[i]? = some e)
  (hQ:∀ h',h'.IsKeyIter it d (i+1) es.size ep->Heap.SameBut it s.heap h'->Q (some e.key) {s with heap:=h'}):wpAny (model prog w) A (pyNext (.ref it)) Q E s:=by
 obtain⟨oi,hoi,hc,hdi⟩:=id hit
 have hT:=hit.typeIs
 unfold pyNext
 refine ae (wpAny_attempt (ez (name:=Str.ofString "__next__") hT b9
  (bR b9 hT F.entry_dict_keyiterator_next ?_ (F.args_dict_keyiterator_next_1 _))))
 refine ae (aj (ae (ae ?_)))
 first |refine ae (dk hT (aj ?_))|refine ae (dZ hT (aj ?_))
 refine ae (wpAny_fieldsOf hoi hdi ?_)
 have yg:Builtin.Dict_items.ownsTuple "dict_keyiterator" = false:=by decide
 simp only[yg,aT,bG]
 show wpAny _ _ (if(Value.ref d==Value.none)=true then _ else _) _ _ s
 rw[aG (show ¬((Value.ref d==Value.none)=true) from aB)]
 refine ae (aj (ae (dG ho hd ?_)))
 rw[aG (by simp)]
 refine ae (aj (ae (en ho hd ?_)))
 rw[aG (by simp)]
 refine aj ?_
 obtain⟨hlt,he⟩:=bx.mp hx
 simp only[show ¬((i:Int)<0) from by omega,bG,dy,bD hlt]
 refine ae ?_
 first |refine ae (dk hT (aj ?_))|refine ae (dZ hT (aj ?_))
 refine ae (wpAny_isOneOf_keyiter hT ?_)
 show wpAny _ _ (setField (.ref it) 1 (rawInt ((i:Int)+1)) >>= _) _ _ s
 refine ae (wpAny_setField hoi hdi (by simp) ?_)
 have Gz:(s.heap.update it (Obj.mapFields (·.setIfInBounds 1 (rawInt ((i:Int)+1))))).IsKeyIter it d (i+1) es.size ep:=
  ⟨_,Heap.get?_update_self _ hoi (Obj.isFreed_of_fields (Obj.data_mapFields hdi _)),(Obj.cls_mapFields ..).trans hc,by rw[Obj.data_mapFields hdi];simp[rawInt]⟩
 refine ae (dD ?_)
 refine ae (wpAny_isOneOf_keyiter (s:={s with heap:=s.heap.update it (Obj.mapFields (·.setIfInBounds 1 (rawInt ((i:Int)+1))))}) Gz.typeIs ?_)
 show wpAny _ _ (pure es[i].key) _ _ _
 rw[he]
 exact aj (aj ⟨_,rfl,aj (hQ _ Gz (dY ..))⟩)
theorem yT {Q:Option Value->Shared->Prop}(hh:A.handled=none)(hit:s.heap.IsKeyIter it d i es.size ep)(ho:s.heap.get? d=some o)(hd:o.data = .dict es ep)(hx:es.size<=i)
  (hQ:∀ h',Heap.ExtBut it s.heap h'->Q none {s with heap:=h'}):wpAny (model prog w) A (pyNext (.ref it)) Q E s:=by
 obtain⟨oi,hoi,hc,hdi⟩:=id hit
 have hT:=hit.typeIs
 unfold pyNext
 refine ae (wpAny_attempt (ez (name:=Str.ofString "__next__") hT b9
  (bR b9 hT F.entry_dict_keyiterator_next ?_ (F.args_dict_keyiterator_next_1 _))))
 refine ae (aj (ae (ae ?_)))
 first |refine ae (dk hT (aj ?_))|refine ae (dZ hT (aj ?_))
 refine ae (wpAny_fieldsOf hoi hdi ?_)
 have yg:Builtin.Dict_items.ownsTuple "dict_keyiterator" = false:=by decide
 simp only[yg,aT,bG]
 show wpAny _ _ (if(Value.ref d==Value.none)=true then _ else _) _ _ s
 rw[aG (show ¬((Value.ref d==Value.none)=true) from aB)]
 refine ae (aj (ae (dG ho hd ?_)))
 rw[aG (by simp)]
 refine ae (aj (ae (en ho hd ?_)))
 rw[aG (by simp)]
 refine aj ?_
 simp only[show ¬((i:Int)<0) from by omega,bG,dy,Array.getElem?_eq_none hx]
 refine ae ?_
 first |refine ae (dk hT (aj ?_))|refine ae (dZ hT (aj ?_))
 show wpAny _ _ (setField (.ref it) 0 .none >>= _) _ _ s
 refine ae (wpAny_setField hoi hdi (by simp) ?_)
 show wpAny _ _ (newExc (.type "StopIteration") [] >>= _) _ _ _
 refine ae ?_
 simp only[newExc,newTuple]
 refine ae (bW ?_ (by size_fits))
 refine ae (m:=firstArgMember _ _) (wpAny_of_eq (a:=Value.none) (by first |rfl |(simp only[firstArgMember];rfl)) ?_)
 refine bW ?_ (by size_fits)
 simp only[raiseNew]
 refine ae (wpAny_handled ?_)
 rw[show A.in1.handled=none from hh]
 refine ae (aj (wpAny_throw ?_))
 refine ae (eY (T:= "StopIteration") (b:=true) ⟨_,aR _ rfl,rfl⟩ isSubtype_stop ?_)
 exact aj (hQ _ (((dY ..).extBut.push _).push _))
theorem wH {Q:Value->Shared->Prop}{n:Nat}(hit:s.heap.IsKeyIter it d i n ep)(h:Q (.ref it) s):wpAny (model prog w) A (pyIter (.ref it)) Q E s:=by
 have hT:=hit.typeIs
 refine wpAny_pyIter_slot hT F.slot_dict_keyiterator_iter (bR F.slot_dict_keyiterator_iter hT F.entry_dict_keyiterator_iter ?_ (F.args_dict_keyiterator_iter_1 _))
 show wpAny _ _ (ret (.ref it)) _ _ s
 exact aj ⟨_,rfl,"dict_keyiterator",_,hT,b9.lookup,h⟩
end
theorem pW {α β:Type}{R:α->β->Prop} :∀ {l₁:List α}{l₂:List β}{i:Nat}{p:α},Paired R l₁ l₂->l₁[i]? = some p->∃ q,l₂[i]? = some q/\R p q
 |_,_,0,_,.cons r _,e=>by cases e;exact⟨_,rfl,r⟩
 |_,_,i+1,p,.cons _ t,e=>pW (i:=i) t e
noncomputable def Itk (a:Addr)(o:Obj)(kvs:List (List Key×V)):It:=
 ⟨λi H=>H a=some (.frz o (.dT kvs))/\i<kvs.length,λi H x H'=>H'=H/\∃ b p,kvs[i]? = some p/\x = .ref b/\H b=some (.tup (p.1.map kV)),λi H=>H a=some (.frz o (.dT kvs))/\kvs.length<=i⟩
theorem Cg {P:Program}{w:World}{K:PySem.W.Frag}{tg:Expr}{hx:Heap}(htg:∀ it u,letOwnedTupleGo tg it u=pure ())(a it:Addr)(o:Obj)(kvs:List (List Key×V))(es:Array DictEntry)(ep:Nat)(hd:o.data = .dict es ep)(hl:es.size=kvs.length):
  Turn P w K tg (Itk a o kvs) [it] it (λi h=>h.IsKeyIter it a i es.size ep) where
 mem:=by simp
 obj:=λi h st b hb=>by
  have e:b=it:=by simpa using hb
  subst e
  obtain⟨oi,hoi,_,hdi⟩:=st
  exact⟨oi,hoi,λv z=>by rw[hdi]at z;cases z⟩
 keep:=λi h h' st k=>by
  obtain⟨oi,hoi,r⟩:=st
  exact⟨oi,k it (by simp) oi hoi,r⟩
 item:=by
  intro X hP hw hK hc i pins s σ H E I hf st hg
  subst hP hw hK
  obtain⟨ha,hi⟩:=hg
  obtain⟨ho,z,hm,xs,r,o',es',ep',e',_,hd',hes,_⟩:=I.hok a _ ha
  rw[ho]at e'
  cases e'
  rw[hd]at hd'
  cases hd'
  have hp:kvs[i]? = some kvs[i]:=by simp[hi]
  obtain⟨q,hq,q1,q2,q3⟩:=pW r hp
  have he:es[i]? = some (entryOfKey (tupleKind (gu X.prog X.w)) q):=by
   rw[<-bC,hes,ah,hq];rfl
  obtain⟨g0,g1,g2,g3,g4,g5⟩:=hf it (by simp)
  refine wI st ho hd he λh' k1 k2=>?_
  refine⟨_,rfl,?_⟩
  rw[htg]
  refine aj ⟨.ref q.2.1,H,I.turned (t':=s.toks) (λb u hb e=>k2.extBut b u hb e) g0 g1 g3 g4 g5,rfl,⟨rfl,q.2.1,_,hp,rfl,q2⟩,k1,λb hb=>?_⟩
  have e:b=it:=by simpa using hb
  subst e;exact g0
 done:=by
  intro X hP hw hK hc i pins s σ H E I hf st hg
  subst hP hw hK
  obtain⟨ha,hi⟩:=hg
  obtain⟨ho,_⟩:=I.hok a _ ha
  obtain⟨g0,g1,g2,g3,g4,g5⟩:=hf it (by simp)
  exact yT (I.ok.hd hc) st ho hd (by rw[hl];exact hi) λh' eb=>⟨rfl,I.turned (t':=s.toks) (λb u hb e=>eb b u hb e) g0 g1 g3 g4 g5⟩
 self:=λ_ _ _ _ _ st h=>wH st h
section
variable {X:Cx}
noncomputable def Kn (tl:TE):TI:=λσ H R=>tl σ H λx H1=>∃ a o kvs,x = .ref a/\H1 a=some (.frz o (.dT kvs))/\R (Itk a o kvs) H1
theorem xN {tg e:Expr}{tl:TE}(hl:PE X e tl)(htg:∀ it u,letOwnedTupleGo tg it u=pure ():=by intro _ _;rfl):PI X tg e (Kn tl):=by
 intro pins s σ H R I h
 refine thn (hl pins s σ H _ I h) λu s1 ⟨x,H1,I1,r1,a,o,kvs,ex,ha,q⟩=>?_
 subst ex
 cases(show u=Value.ref a from r1)
 obtain⟨ho,z,hm,xs,r,o',es,ep,e',hxd,hd,hes,_⟩:=I1.hok a _ ha
 rw[ho]at e'
 cases e'
 have hsz:es.size=kvs.length:=by
  have h1:=cf List.length hes
  rw[aS,aa,<-bX r]at h1
  exact h1
 refine wJ hm ho hxd hd ?_
 refine⟨s1.heap.objs.size,[s1.heap.objs.size],_,_,H1,rfl,I1.kept (t':=s1.toks) (λb u e=>ax _ e),Cg (hx:=s1.heap) htg a _ o kvs es ep hd hsz,⟨_,aR _ rfl,rfl,rfl⟩,λb hb=>?_,q⟩
 have e:b=s1.heap.objs.size:=by simpa using hb
 subst e
 exact I1.AW (ar _) (I1.hok.fresh (ar _))
end
section
variable {X:Cx}{pins:List (Addr×Obj)}{σ:St}{H:Hp}{s:Shared}{a b:Addr}{kvs:List (List Key×V)}{k:List Key}{v:V}{r:Value}{A:Around}{E:Value->Shared->Prop}
theorem Ff {Q:Unit->Shared->Prop}(hu:A.units<cLine)(I:Inv X pins σ H s)(e:H a=some (.dT kvs))(eb:H b=some (.tup (k.map kV)))(l:kvs.length<sizeLine)(rv:RelV v r)
  (h:∀ s',Inv X pins σ (upd H a (.dT (putK kvs k v))) s'->Q () s'):wpAny (model X.prog X.w) A (dictSet a (.ref b) r) Q E s:=by
 obtain⟨z,hd,xs,rel,dd⟩:=Fb I.hok e
 have hz:xs.length<=sizeLine:=by rw[<-bX rel];exact z
 have hl:(putK kvs k v).length<=sizeLine:=by have:=o9 kvs k v;omega
 refine wpAny_dictSet_heap (hsz:=hz) hu (qA I.hok eb) dd λh' dd' hs=>h _ ?_
 obtain⟨q,es,ep,hq,h2,h3,h4,_,h5⟩:=dd'
 refine rG I (by rw[e];exact True.intro) hs ⟨q,hq⟩ ⟨hl,hd,_,(rel.put k eb rv).keeps λc ys ec=>?_,q,es,ep,hq,h2,h3,h4,h5⟩
 rw[fK (gy ec e (λz=>nomatch z))]
 exact ec
noncomputable def HA (tk tv:TE):TE:=λσ H Q=>∀ p,H p=none->Ah [(tk,tv)] σ (upd H p (.dT [])) λps H2=>∃ (x y:V) (b:Addr) (ks:List Key),ps = [(x,y)]/\x=V.ref b/\H2 b=some (.tup (ks.map kV))/\H2 p=some (.dT [])/\Q (.ref p) (upd H2 p (.dT [(ks,y)]))
theorem za {pos:Pos}{k v:Expr}{tk tv:TE}(hu:X.A.units+1<cLine)(hk:PE X k tk)(hv:PE X v tv):PE X (.Dict [some k] [v] pos) (HA tk tv):=by
 intro pins s σ H Q I q
 have hn:=I.hok.fresh (ar s.heap.objs.size)
 have I1:=I.laid (a:=s.heap.objs.size) (o:=.dT []) (h':=s.heap.push {cls:=.type "dict",data:=.dict #[]}) (t':=s.toks) (λ_ _ q=>ax _ q) (ar _) (vt s.heap I.big)
 refine wpAny_Dict_any rfl rfl (by simp) (by simp) (thn (DZ hk hv F8 pins _ σ _ _ I1 (q _ hn)) λws s2 ⟨ps,H2,I2,rel,x,y,b,ks,ep,ex,hb,hp,q2⟩=>?_)
 subst ep ex
 cases rel with
 |@cons p w' ps ws r t=>
   cases t
   obtain⟨w1,w2⟩:=w'
   obtain⟨r1,r2⟩:=r
   cases(show w1=Value.ref b from r1)
   unfold storeAll
   rw[cJ]
   refine ae (ae (Ff (by omega) I2 hp hb (by rw[eQ];decide) r2 λs3 I3=>aj ?_))
   refine aj ⟨.ref s.heap.objs.size,_,I3,rfl,?_⟩
   exact q2
theorem D9 {x y n:Str}{i:Int}{u:Value}{k1 k2:Nat}{p1 p2 p3 p4 pos:Pos}(hg:Gl X n)(hm:X.mg n=some u)(r:RelV (.int i) u)(hi:i.natAbs.log2<1920)(hz:x.length<=1000/\y.length<=1000/\(Str.ofString (toString i)).length<=1000)
  (hd:(n==("__debug__" :Str))=false:=by decide):PE X (.JoinedStr [.Constant (.str x) k1 p1,.FormattedValue (.Name n p2) (-1) none p3,.Constant (.str y) k2 p4] pos) (λ_ H Q=>∀ z,Q (.str z) H):=by
 intro pins s σ H Q I q
 obtain⟨t,rfl⟩:=r
 have hl:∀ a b:Str,(a++b).length=a.length+b.length:=strLen_append
 have he:Str.empty.length=0:=rfl
 refine wpAny_JoinedStr ?_
 refine PySem.wpAny_Constant_str ⟨x,_,rfl,by rw[hl,he,cy];omega,?_⟩
 refine wpAny_FormattedValue_plain (oA (I.tok _) hg hm (wpAny_formatField_int hi ⟨_,_,rfl,by rw[hl,hl,he,cy];omega,?_⟩) hd)
 refine PySem.wpAny_Constant_str ⟨y,_,rfl,by rw[hl,hl,hl,he,cy];omega,?_⟩
 refine⟨by rw[hl,hl,hl,he,cy];omega,⟨.str _,H,?_,⟨_,rfl⟩,q _⟩⟩
 exact I.tok _
end
section
variable {X:Cx}{K:PySem.W.Frag}
theorem lE (e:X.K=K):kG X (.type "list") (λxs H Q=>∃ p ys,xs = [.ref p]/\(SqL K H p ys\/SqT K H p ys)/\∀ l,H l=none->Q (.ref l) (upd H l (.lst ys))):=by subst e;exact iM
theorem kD (e:X.K=K):kG X (.type "tuple") (λxs H Q=>∃ p ys,xs = [.ref p]/\((SqL K H p ys/\∀ l,H l=none->Q (.ref l) (upd H l (.tup ys)))\/(SqT K H p ys/\Q (.ref p) H))):=by subst e;exact gD
end
noncomputable abbrev Ln:=Int×List (Int×Int)
structure jf (l:Ln)(ns:List Int):Prop where
 ends:∀ e∈ns,0<=e/\e<2*l.1
 nd:(ns.map (· / 2)).Nodup
 ch:∀ (i:Nat) x y,ns[i]? = some x->ns[i+1]? = some y->y∈jn l.2 (oth x)
variable {l:Ln}{e:Int}
theorem AK (ok:gj l){x:Int} :x∈jn l.2 e↔(min e x,max e x)∈l.2:=by
 unfold jn
 rw[FX,aD]
 constructor
 ·rintro(z |z)
  ·obtain⟨p,hp,rfl⟩:=ao.mp z
   obtain⟨h1,h2⟩:=bE.mp hp
   have h2:p.2=e:=by simpa using h2
   have:=ok.ends p h1
   have e1:(min e p.1,max e p.1)=p:=fe (by show min e p.1=p.1;omega) (by show max e p.1=p.2;omega)
   rw[e1];exact h1
  ·obtain⟨p,hp,rfl⟩:=ao.mp z
   obtain⟨h1,h2⟩:=bE.mp hp
   have h2:p.1=e:=by simpa using h2
   have:=ok.ends p h1
   have e1:(min e p.2,max e p.2)=p:=fe (by show min e p.2=p.1;omega) (by show max e p.2=p.2;omega)
   rw[e1];exact h1
 ·intro h
  by_cases hx:e<=x
  ·have e1:(min e x,max e x)=(e,x):=fe (by show min e x=e;omega) (by show max e x=x;omega)
   rw[e1]at h
   exact .inr (ao.mpr ⟨(e,x),bE.mpr ⟨h,by simp⟩,rfl⟩)
  ·have e1:(min e x,max e x)=(x,e):=fe (by show min e x=x;omega) (by show max e x=e;omega)
   rw[e1]at h
   exact .inl (ao.mpr ⟨(x,e),bE.mpr ⟨h,by simp⟩,rfl⟩)
theorem BL (ok:gj l){x:Int}(h:x∈jn l.2 e):e∈jn l.2 x:=by
 rw[AK ok]at h ⊢
 rw[show min x e=min e x by omega,show max x e=max e x by omega];exact h
theorem vc (ok:gj l){x:Int}(h:x∈jn l.2 e):0<=x/\x<2*l.1:=by
 have:=ok.ends _ ((AK ok).mp h)
 dsimp only at this
 omega
variable {ns:List Int}
theorem yl {x:Int}(h:x∈fr l ns e):x∈jn l.2 e/\x/2∉ns.map (· / 2):=by
 obtain⟨h1,h2⟩:=bE.mp h
 exact⟨h1,by simpa using h2⟩
theorem jf.on (ok:gj l)(T:jf l ns)(hne:ns≠ [])(he:e∈fr l ns (oth (ns.getLastD 0))):jf l (ns.drop 1 ++ [e]):=by
 obtain⟨h1,h2⟩:=yl he
 have hl:1<=ns.length:=by cases ns with |nil=>exact absurd rfl hne |cons x r=>simp
 refine⟨λx hx=>?_,?_,λi x y hx hy=>?_⟩
 ·rcases aD.mp hx with z |z
  ·exact T.ends x (eK z)
  ·have z:x=e:=by simpa using z
   rw[z];exact vc ok h1
 ·rw[av,bQ]
  refine⟨by rw[eI];exact T.nd.sublist (List.drop_sublist _ _),by simp,λa ha b hb z=>?_⟩
  have hb:b=e/2:=by simpa using hb
  rw[eI]at ha
  exact h2 (by rw[<-hb,<-z];exact eK ha)
 ·have ld:(ns.drop 1).length=ns.length-1:=bA
  by_cases hi:i+1<(ns.drop 1).length
  ·rw[aq hi,cY]at hy
   rw[aq (by omega),cY]at hx
   exact T.ch (1+i) x y hx (by rw[<-hy];congr 1)
  ·have hlt:=(af.mp hy).1
   rw[ak,aP]at hlt
   have e1:i+1=(ns.drop 1).length:=by omega
   rw[e1,ay (ar _),bu]at hy
   cases hy
   rw[aq (by omega),cY]at hx
   have e2:ns.getLastD 0=x:=by
    rw[fm,List.getLast?_eq_getElem?,show ns.length-1=1+i by omega,hx];rfl
   rw[e2]at h1
   exact h1
theorem jf.back (ok:gj l)(T:jf l ns)(hne:ns≠ [])(he:e∈fr l ns (ns.headD 0)):jf l (oth e::ns.dropLast):=by
 obtain⟨h1,h2⟩:=yl he
 have hl:1<=ns.length:=by cases ns with |nil=>exact absurd rfl hne |cons x r=>simp
 refine⟨λx hx=>?_,?_,λi x y hx hy=>?_⟩
 ·rcases aE.mp hx with z |z
  ·rw[z]
   have:=vc ok h1
   unfold oth
   omega
  ·exact T.ends x ((bT ns).subset z)
 ·rw[aZ,bq]
  refine⟨λz=>h2 ?_,?_⟩
  ·rw[Ee]at z
   have:=(bT ns).map (· / 2)
   exact this.subset z
  ·exact T.nd.sublist ((bT ns).map _)
 ·cases i with
  |zero=>
   cases hx
   have hy:ns.dropLast[0]? = some y:=hy
   rw[tM]
   have hy2:ns[0]? = some y:=by
    have:=(af.mp hy).1
    rw[List.getElem?_dropLast]at hy
    split at hy
    ·exact hy
    ·cases hy
   have e2:ns.headD 0=y:=by cases ns with |nil=>cases hy2 |cons a r=>cases hy2;rfl
   rw[e2]at h1
   exact BL ok h1
  |succ j=>
   have hx:ns.dropLast[j]? = some x:=hx
   have hy:ns.dropLast[j+1]? = some y:=hy
   rw[List.getElem?_dropLast]at hx hy
   split at hx
   ·split at hy
    ·exact T.ch j x y hx hy
    ·cases hy
   ·cases hx
theorem Eu {m:Mv}(ok:gj l)(T:jf l ns)(hne:ns≠ [])(hm:m∈mvs l ns):jf l m.2/\m.2.length=ns.length/\m.2≠ []:=by
 have hl:1<=ns.length:=by cases ns with |nil=>exact absurd rfl hne |cons x r=>simp
 rcases aD.mp hm with z |z
 ·obtain⟨e,he,rfl⟩:=ao.mp z
  refine⟨T.on ok hne he,?_,λe=>?_⟩
  ·simp only[onM,ak,bA,aO,eQ];omega
  ·simp[onM]at e
 ·obtain⟨e,he,rfl⟩:=ao.mp z
  refine⟨T.back ok hne he,?_,λe=>?_⟩
  ·simp only[vC,aO,bM];omega
  ·simp[vC]at e
theorem mM {α:Type} [DecidableEq α]:∀ {l1 l2:List α},l1.Nodup->(∀ x∈l1,x∈l2)->l1.length<=l2.length
 |[],_,_,_=>aI _
 |x::r,l2,nd,h=>by
  rw[bq]at nd
  have hx:=h x aC
  have:=mM (l1:=r) (l2:=l2.erase x) nd.2 λy hy=>by
   have:y≠x:=λz=>nd.1 (by rw[<-z];exact hy)
   exact(cL this).mpr (h y (aw _ hy))
  rw[cP hx]at this
  have h1:1<=l2.length:=by cases l2 with |nil=>cases hx |cons a b=>simp
  rw[aO]
  omega
noncomputable def tI (l:Ln):List (Int×Int):=l.2.map (λp=>(oth p.1,p.2))++l.2.map λp=>(oth p.2,p.1)
noncomputable def AY (l:Ln):List Int:=(List.range (2*l.1).toNat).map λi:Nat=>(i:Int)
noncomputable def nE (l:Ln):Nat->List (List Int)
 | 0=>[[]]
 | 1=>(AY l).map λe=>[e]
 |n+2=>(tI l).flatMap λp=>(nE l n).map λr=>p.1::p.2::r
theorem GP (ok:gj l){x y:Int}(h:y∈jn l.2 (oth x)):(x,y)∈tI l:=by
 have h:=(AK ok).mp h
 unfold tI
 rw[aD]
 by_cases hc:oth x<=y
 ·rw[show min (oth x) y=oth x by omega,show max (oth x) y=y by omega]at h
  exact .inl (ao.mpr ⟨_,h,by rw[tM]⟩)
 ·rw[show min (oth x) y=y by omega,show max (oth x) y=oth x by omega]at h
  exact .inr (ao.mpr ⟨_,h,by rw[tM]⟩)
theorem rP {l:Ln}(ok:gj l):∀ (n:Nat) (ns:List Int),ns.length=n->(∀ e∈ns,0<=e/\e<2*l.1)->(∀ (i:Nat) x y,ns[i]? = some x->ns[i+1]? = some y->y∈jn l.2 (oth x))->ns∈nE l n
 | 0,ns,hl,_,_=>by rw[List.eq_nil_of_length_eq_zero hl];exact aC
 | 1,[e],_,he,_=>by
  have:=he e aC
  refine ao.mpr ⟨e,ao.mpr ⟨e.toNat,by rw[br];omega,by omega⟩,rfl⟩
 |n+2,x::y::r,hl,he,hc=>by
  refine List.mem_flatMap.mpr ⟨(x,y),GP ok (hc 0 x y rfl rfl),ao.mpr ⟨r,rP ok n r (by simpa using hl) (λe h=>he e (aw _ (aw _ h))) (λi a b ha hb=>hc (i+2) a b ha hb),rfl⟩⟩
theorem zT {l:Ln}(ok:gj l):∀ n,(nE l n).length<=160 ^ ((n+1)/2)
 | 0=>by simp[nE]
 | 1=>by
  simp only[nE,AY,aa,ck]
  have:=ok.most
  omega
 |n+2=>by
  have ih:=zT ok n
  simp only[nE]
  rw[List.length_flatMap]
  have e1:(tI l).map (λa=>((nE l n).map λr=>a.1::a.2::r).length)=(tI l).map λ_=>(nE l n).length:=by
   refine eV λa _=>by rw[aa]
  rw[e1,List.map_const',List.sum_replicate_nat]
  have h1:(tI l).length<=160:=by
   unfold tI
   rw[ak,aa,aa]
   have:=ok.len
   omega
  have e2:(n+2+1)/2=(n+1)/2+1:=by omega
  rw[e2,ed,Nat.mul_comm (160 ^ _)]
  exact Nat.mul_le_mul h1 ih
theorem Af (ok:gj l){n:Nat}(hn:n<=6){ts:List (List Int)}(nd:ts.Nodup)(h:∀ t∈ts,jf l t/\t.length=n):ts.length<=4096000:=by
 have h1:=mM nd (l2:=nE l n) λt ht=>rP ok n t (h t ht).2 (h t ht).1.ends (h t ht).1.ch
 have h2:=zT ok n
 have h3:160 ^ ((n+1)/2)<=160 ^ 3:=dA (by decide) (by omega)
 have h4:160 ^ 3=4096000:=by decide
 omega
noncomputable abbrev Ent:=List Int×Option (List Int×(Str×Int))
noncomputable def nF (t:List Int)(o:List Ent)(m:Mv):List Ent:=if m.2∈o.map (·.1)then o else o ++ [(m.2,some (t,m.1))]
noncomputable def gW (t:List Int)(ms:List Mv)(o:List Ent):List Ent:=ms.foldl (nF t) o
noncomputable def fR (l:Ln)(ns:List Int):Nat->List Ent
 | 0=>[(ns,none)]
 |i+1=>match (fR l ns i)[i]? with
  |some e=>gW e.1 (mvs l e.1) (fR l ns i)
  |none=>fR l ns i
theorem vE (t:List Int)(o:List Ent)(m:Mv):o <+:nF t o m:=by
 unfold nF
 split
 ·exact List.prefix_rfl
 ·exact cX _ _
theorem pQ (t:List Int)(ms:List Mv):∀ o,o <+:gW t ms o:=by
 induction ms with
 |nil=>exact λo=>List.prefix_rfl
 |cons m r ih=>exact λo=>(vE t o m).trans (ih _)
theorem uq {t:List Int}{ms:List Mv}{o:List Ent}{j:Nat}{m:Mv}(h:ms[j]? = some m):gW t (ms.take (j+1)) o=nF t (gW t (ms.take j) o) m:=by
 unfold gW
 rw[aV,h,cM];rfl
theorem oT {t:List Int}(ms:List Mv)(o:List Ent)(j:Nat):gW t (ms.take j) o <+:gW t ms o:=by
 have:gW t ms o=gW t (ms.drop j) (gW t (ms.take j) o):=by
  unfold gW
  rw[<-cM,cG]
 rw[this]
 exact pQ _ _ _
theorem nK {i:Nat}{e:Ent}(h:(fR l ns i)[i]? = some e):fR l ns (i+1)=gW e.1 (mvs l e.1) (fR l ns i):=by
 rw[fR,h]
theorem pN (l:Ln)(ns:List Int)(i:Nat):fR l ns i <+:fR l ns (i+1):=by
 rw[fR]
 split
 ·exact pQ _ _ _
 ·exact List.prefix_rfl
theorem tV (l:Ln)(ns:List Int)(i:Nat):∀ k,fR l ns i <+:fR l ns (i+k)
 | 0=>List.prefix_rfl
 |k+1=>(tV l ns i k).trans (pN l ns (i+k))
theorem v7 {l:Ln}{ns:List Int}{i:Nat}(h:(fR l ns i).length<=i):∀ k,fR l ns (i+k)=fR l ns i
 | 0=>rfl
 |k+1=>by
  have ih:=v7 h k
  have:(fR l ns (i+k))[i+k]? = none:=bg (by rw[ih];omega)
  show fR l ns (i+k+1)=_
  rw[fR,this]
  exact ih
structure pL (l:Ln)(ns:List Int)(es:List Ent):Prop where
 tr:∀ e∈es,jf l e.1/\e.1.length=ns.length/\e.1≠ []
 nd:(es.map (·.1)).Nodup
 ne:es≠ []
theorem pL.add {t:List Int}{es:List Ent}{m:Mv}(ok:gj l)(h:pL l ns es)(hm:m∈mvs l t)(ht:jf l t/\t.length=ns.length/\t≠ []):pL l ns (nF t es m):=by
 unfold nF
 split
 ·exact h
 ·rename_i hn
  obtain⟨h1,h2,h3⟩:=Eu ok ht.1 ht.2.2 hm
  refine⟨λe he=>?_,?_,by simp⟩
  ·rcases aD.mp he with z |z
   ·exact h.tr e z
   ·have z:e=(m.2,some (t,m.1)):=by simpa using z
    rw[z];exact⟨h1,by show m.2.length=ns.length;omega,h3⟩
  ·rw[av,bQ]
   refine⟨h.nd,by simp,λa ha b hb z=>?_⟩
   have hb:b=m.2:=by simpa using hb
   exact hn (by rw[<-hb,<-z];exact ha)
theorem pL.scan {l:Ln}{ns t:List Int}(ok:gj l)(ht:jf l t/\t.length=ns.length/\t≠ []):∀ {ms:List Mv}{es:List Ent},(∀ m∈ms,m∈mvs l t)->pL l ns es->pL l ns (gW t ms es)
 |[],_,_,h=>h
 |m::r,es,hm,h=>pL.scan (ms:=r) ok ht (λx hx=>hm x (aw _ hx)) (h.add ok (hm m aC) ht)
theorem j6 {l:Ln}{ns:List Int}(ok:gj l)(T:jf l ns)(hne:ns≠ []):∀ i,pL l ns (fR l ns i)
 | 0=>⟨λe he=>by have z:e=(ns,none):=(by simpa [fR]using he);rw[z];exact⟨T,rfl,hne⟩,by simp[fR],by simp[fR]⟩
 |i+1=>by
  have ih:=j6 ok T hne i
  rw[fR]
  split
  ·rename_i e he
   exact pL.scan ok (ih.tr e (au he)) (λm hm=>hm) ih
  ·exact ih
theorem pL.len {es:List Ent}(ok:gj l)(h:pL l ns es)(hn:ns.length<=6):es.length<=4096000:=by
 have:=Af ok hn h.nd λt ht=>by
  obtain⟨e,he,rfl⟩:=ao.mp ht
  exact⟨(h.tr e he).1,(h.tr e he).2.1⟩
 rw[aa]at this
 exact this
noncomputable def okJ (m:Int)(p:Int×Int):Prop:=(0<=p.1/\p.1<2*m)/\(0<=p.2/\p.2<2*m)/\p.1<=p.2/\p.1/2≠p.2/2
structure tw (l:Ln):Prop where
 one:1<=l.1
 most:l.1<=14
 len:l.2.length<=24
 ok:∀ p∈l.2,okJ l.1 p
 nd:l.2.Nodup
theorem tw.Ip (G:tw l):gj l:=by
 have h1:=G.len
 refine⟨G.one,by have:=G.most;omega,by omega,λe=>?_,λp hp=>?_⟩
 ·have:=inc_le l.2 e;omega
 ·obtain⟨a,b,c,_⟩:=G.ok p hp
  exact⟨a.1,c,b.2⟩
structure Ren (m:Int)(nm es:List Int):Prop where
 len:(nm.length:Int)=m
 nb:∀ x∈nm,0<=x/\x<m
 nd:nm.Nodup
 CZ:es.length=2*nm.length
 at_:∀ j,j<nm.length->∃ f:Int,(f=0\/f=1)/\es[2*j]? = some (2*nm.getD j 0+f)/\es[2*j+1]? = some (2*nm.getD j 0+1-f)
noncomputable def rho (es:List Int)(e:Int):Int:=es.getD e.toNat 0
noncomputable def rj (es:List Int)(p:Int×Int):Int×Int:=(min (rho es p.1) (rho es p.2),max (rho es p.1) (rho es p.2))
variable {m:Int}{es:List Int}
theorem Ren.rho {nm:List Int}(R:Ren m nm es)(h0:0<=e)(h1:e<2*m):
  ∃ f:Int,(f=0\/f=1)/\TL.rho es e=2*nm.getD (e/2).toNat 0+(if e%2=0 then f else 1-f)/\
   ∀ e',0<=e'->e'/2=e/2->TL.rho es e'=2*nm.getD (e/2).toNat 0+(if e'%2=0 then f else 1-f):=by
 have hl:=R.len
 obtain⟨f,hf,e1,e2⟩:=R.at_ (e/2).toNat (by omega)
 have key:∀ e',0<=e'->e'/2=e/2->TL.rho es e'=2*nm.getD (e/2).toNat 0+(if e'%2=0 then f else 1-f):=λe' h2 h3=>by
  unfold TL.rho
  by_cases c:e'%2=0
  ·rw[aQ c,aF,show e'.toNat=2*(e/2).toNat by omega,e1];rfl
  ·rw[aG c,aF,show e'.toNat=2*(e/2).toNat+1 by omega,e2]
   show 2*nm.getD (e/2).toNat 0+1-f=_
   omega
 exact⟨f,hf,key e h0 rfl,key⟩
theorem Ren.Bv {nm:List Int}(R:Ren m nm es)(h0:0<=e)(h1:e<2*m):TL.rho es e/2=nm.getD (e/2).toNat 0:=by
 obtain⟨f,hf,e1,_⟩:=R.rho h0 h1
 rw[e1]
 split<;>omega
theorem Ren.Ka {nm:List Int}(R:Ren m nm es){p:Int}(h0:0<=p)(h1:p<m):0<=nm.getD p.toNat 0/\nm.getD p.toNat 0<m:=by
 have hl:=R.len
 have h2:p.toNat<nm.length:=by omega
 have:nm.getD p.toNat 0=nm[p.toNat]:=by rw[aF,ag h2];rfl
 rw[this]
 exact R.nb _ (fB h2)
theorem Ren.Eo {nm:List Int}(R:Ren m nm es){p q:Int}(h0:0<=p)(h1:p<m)(g0:0<=q)(g1:q<m)(e:nm.getD p.toNat 0=nm.getD q.toNat 0):p=q:=by
 have hl:=R.len
 have h2:p.toNat<nm.length:=by omega
 have h3:q.toNat<nm.length:=by omega
 have e1:nm.getD p.toNat 0=nm[p.toNat]:=by rw[aF,ag h2];rfl
 have e2:nm.getD q.toNat 0=nm[q.toNat]:=by rw[aF,ag h3];rfl
 rw[e1,e2]at e
 have:=(cE R.nd).mp e
 omega
theorem Ren.DS {nm:List Int}(R:Ren m nm es)(h0:0<=e)(h1:e<2*m):0<=TL.rho es e/\TL.rho es e<2*m:=by
 obtain⟨f,hf,e1,_⟩:=R.rho h0 h1
 have:=R.Ka (p:=e/2) (by omega) (by omega)
 rw[e1]
 split<;>omega
theorem Ren.inj {nm:List Int}(R:Ren m nm es){e':Int}(h0:0<=e)(h1:e<2*m)(g0:0<=e')(g1:e'<2*m)(h:TL.rho es e=TL.rho es e'):e=e':=by
 have hp:e/2=e'/2:=by
  have a:=R.Bv h0 h1
  have b:=R.Bv g0 g1
  rw[h,b]at a
  exact(R.Eo (by omega) (by omega) (by omega) (by omega) a).symm
 obtain⟨f,hf,e1,e2⟩:=R.rho h0 h1
 rw[e1,e2 e' g0 hp.symm]at h
 by_cases c:e%2=0<;>by_cases d:e'%2=0
 ·omega
 ·rw[aQ c,aG d]at h;omega
 ·rw[aG c,aQ d]at h;omega
 ·omega
theorem Ren.okJ {nm:List Int}(R:Ren m nm es){p:Int×Int}(h:TL.okJ m p):TL.okJ m (rj es p):=by
 obtain⟨⟨a0,a1⟩,⟨b0,b1⟩,le,ne⟩:=h
 have ha:=R.DS a0 a1
 have hb:=R.DS b0 b1
 have pa:=R.Bv a0 a1
 have pb:=R.Bv b0 b1
 have hne:TL.rho es p.1/2≠TL.rho es p.2/2:=λz=>by
  rw[pa,pb]at z
  exact ne (R.Eo (by omega) (by omega) (by omega) (by omega) z)
 unfold TL.okJ rj
 dsimp only
 generalize TL.rho es p.1=x at *
 generalize TL.rho es p.2=y at *
 refine⟨by omega,by omega,by omega,λz=>?_⟩
 by_cases c:x<=y
 ·rw[eS c,eE c]at z;exact hne z
 ·rw[eD (by omega),eT (by omega)]at z;exact hne z.symm
theorem okJ.lt {p:Int×Int}(h:okJ m p):p.1<p.2:=by
 obtain⟨_,_,le,ne⟩:=h
 by_cases c:p.1=p.2
 ·rw[c]at ne;exact absurd rfl ne
 ·omega
theorem Kc {a b c d:Int}(h1:min a b=min c d)(h2:max a b=max c d):(a=c/\b=d)\/(a=d/\b=c):=by
 rcases Int.le_total a b with x |x<;>rcases Int.le_total c d with y |y
 ·rw[eS x,eS y]at h1;rw[eE x,eE y]at h2;exact .inl ⟨h1,h2⟩
 ·rw[eS x,eD y]at h1;rw[eE x,eT y]at h2;exact .inr ⟨h1,h2⟩
 ·rw[eD x,eS y]at h1;rw[eT x,eE y]at h2;exact .inr ⟨h2,h1⟩
 ·rw[eD x,eD y]at h1;rw[eT x,eT y]at h2;exact .inl ⟨h2,h1⟩
theorem Ren.HL {nm:List Int}(R:Ren m nm es){p q:Int×Int}(hp:TL.okJ m p)(hq:TL.okJ m q)(e:rj es p=rj es q):p=q:=by
 obtain⟨⟨a0,a1⟩,⟨b0,b1⟩,le,ne⟩:=id hp
 obtain⟨⟨c0,c1⟩,⟨d0,d1⟩,le',ne'⟩:=id hq
 have l1:=hp.lt
 have l2:=hq.lt
 unfold rj at e
 rw[Prod.mk.injEq]at e
 obtain⟨e1,e2⟩:=e
 obtain⟨pa,pb⟩:=p
 obtain⟨qa,qb⟩:=q
 dsimp only at *
 have hor:=Kc e1 e2
 rcases hor with⟨x,y⟩|⟨x,y⟩
 ·rw[R.inj a0 a1 c0 c1 x,R.inj b0 b1 d0 d1 y]
 ·have:=R.inj a0 a1 d0 d1 x
  have:=R.inj b0 b1 c0 c1 y
  omega
theorem Ren.line {nm:List Int}(R:Ren m nm es){js js':List (Int×Int)}(G:tw (m,js))(hp:js'.Perm (js.map (rj es))):tw (m,js'):=by
 refine⟨G.one,G.most,?_,λp h=>?_,?_⟩
 ·have:=hp.length_eq
  rw[aa]at this
  show js'.length<=24
  have:=G.len
  dsimp only at this
  omega
 ·obtain⟨q,hq,rfl⟩:=ao.mp (hp.mem_iff.mp h)
  exact R.okJ (G.ok q hq)
 ·refine hp.nodup_iff.mpr ?_
  rw[List.Nodup,cK]
  exact dR (λ{a b} ha hb hab z=>hab (R.HL (G.ok a ha) (G.ok b hb) z)) G.nd
end TL
namespace TL
open PySem PySem.Spec PyProof.Rows L2
noncomputable abbrev TF:=St->Hp->Str->(Str->Hp->Prop)->Prop
end TL
namespace TS
open PySem
noncomputable def lcg:Nat->Nat->Nat
 | 0,x=>x
 |d+1,x=>5*lcg d x+1
theorem yd (d:Nat):∀ e x,lcg (e+d) x=lcg e (lcg d x)
 | 0,x=>by rw[d9];rfl
 |e+1,x=>by rw[Nat.add_right_comm];show 5*lcg (e+d) x+1=5*lcg e (lcg d x)+1;rw[yd d e x]
theorem BF:∀ k,∃ q,q%2=1/\∀ x,lcg (2 ^ k) x=x+2 ^ k*q*(4*x+1)
 | 0=>⟨1,rfl,λx=>by show 5*x+1=_;omega⟩
 |k+1=>by
  obtain⟨q,hq,h⟩:=BF k
  refine⟨q*(1+2*2 ^ k*q),?_,λx=>?_⟩
  ·have e:q*(1+2*2 ^ k*q)=q+2*(q*2 ^ k*q):=by
    rw[Nat.mul_add,Nat.mul_one,bU 2,Nat.mul_left_comm q 2,bU q]
   rw[e,Nat.add_mul_mod_self_left];exact hq
  ·rw[ed,Nat.mul_two,yd,h x,h]
   generalize 2 ^ k=p
   have e:∀ y,p*q*(4*(x+y)+1)=p*q*(4*x+1)+4*(p*q*y):=λy=>by
    rw[show 4*(x+y)+1=(4*x+1)+4*y by omega,Nat.mul_add,Nat.mul_left_comm (p*q) 4 y]
   rw[e]
   have e2:(p+p)*(q*(1+2*p*q))*(4*x+1)=2*(p*q*(4*x+1))+4*(p*q*(p*q*(4*x+1))):=by
    have a1:(p+p)*(q*(1+2*p*q))=2*(p*q)+4*(p*q*(p*q)):=by
     rw[<-Nat.two_mul,bU,<-bU p q,Nat.mul_add,Nat.mul_one,Nat.mul_add]
     congr 1
     rw[bU 2 p q,Nat.mul_left_comm (p*q) 2,<-bU]
    rw[a1,Nat.add_mul,bU 2,bU 4,bU (p*q)]
   rw[e2]
   omega
theorem tO:∀ k x y,∃ d,d<2 ^ k/\lcg d x%2 ^ k=y%2 ^ k
 | 0,x,y=>⟨0,Nat.one_pos,by simp[Nat.mod_one]⟩
 |k+1,x,y=>by
  obtain⟨d,hd,e⟩:=tO k x y
  have hp:0<2 ^ k:=Nat.two_pow_pos k
  have h2:2 ^ (k+1)=2 ^ k*2:=ed ..
  obtain⟨q,hq,h⟩:=BF k
  have split:∀ a,a%(2 ^ k*2)=a%2 ^ k+2 ^ k*(a/2 ^ k%2):=λa=>Nat.mod_mul
  by_cases c:lcg d x/2 ^ k%2=y/2 ^ k%2
  ·exact⟨d,by omega,by rw[h2,split,split,e,c]⟩
  ·refine⟨2 ^ k+d,by omega,?_⟩
   rw[yd,h,h2,split,split]
   generalize hz:lcg d x=z at *
   have h4:(q*(4*z+1))%2=1:=by
    rw[Nat.mul_mod,hq,show(4*z+1)%2=1 by omega]
   have e1:(z+2 ^ k*q*(4*z+1))%2 ^ k=z%2 ^ k:=by rw[bU,Nat.add_mul_mod_self_left]
   have e2:(z+2 ^ k*q*(4*z+1))/2 ^ k=z/2 ^ k+q*(4*z+1):=by rw[bU,Nat.add_mul_div_left _ _ hp]
   rw[e1,e2,e]
   congr 2
   have:=Nat.mod_two_eq_zero_or_one (z/2 ^ k)
   have:=Nat.mod_two_eq_zero_or_one (y/2 ^ k)
   omega
open SetTable
noncomputable def adv (mask:Nat)(p:Probe):Probe:=
 if p.more>0 then {p with j:=p.j+1,more:=p.more-1} else
 {p with j:=(leap mask p.i p.perturb).1,more:=runEnd mask (leap mask p.i p.perturb).1-(leap mask p.i p.perturb).1,i:=(leap mask p.i p.perturb).1,perturb:=(leap mask p.i p.perturb).2}
theorem Fv (t:SetTable)(p:Probe):t.advance p=adv t.mask p:=by unfold advance adv;split<;>rfl
noncomputable def pAt (mask:Nat)(h:Int):Nat->Probe
 | 0=>{j:=bits h%(mask+1),more:=runEnd mask (bits h%(mask+1))-bits h%(mask+1),i:=bits h%(mask+1),perturb:=bits h,dummy:=none}
 |n+1=>adv mask (pAt mask h n)
theorem wR (mask:Nat)(h:Int):∀ n,(pAt mask h n).dummy=none
 | 0=>rfl
 |n+1=>by
  show(adv mask (pAt mask h n)).dummy=none
  unfold adv
  split<;>exact wR mask h n
noncomputable def lpI (mask:Nat)(h:Int):Nat->Nat×Nat
 | 0=>(bits h%(mask+1),bits h)
 |r+1=>leap mask (lpI mask h r).1 (lpI mask h r).2
noncomputable def lpT (mask:Nat)(h:Int):Nat->Nat
 | 0=>0
 |r+1=>lpT mask h r+(runEnd mask (lpI mask h r).1-(lpI mask h r).1)+1
theorem wC (mask i:Nat):i<=runEnd mask i:=by unfold runEnd;split<;>omega
theorem wB (mask i:Nat):runEnd mask i<=i+9:=by unfold runEnd;split<;>omega
variable {mask:Nat}
theorem sR {i:Nat}(h:i<=mask):runEnd mask i<=mask:=by unfold runEnd;split<;>omega
theorem mL (mask:Nat)(h:Int):∀ r d,d<=runEnd mask (lpI mask h r).1-(lpI mask h r).1->
  pAt mask h (lpT mask h r+d) = {j:=(lpI mask h r).1+d,more:=runEnd mask (lpI mask h r).1-(lpI mask h r).1-d,i:=(lpI mask h r).1,perturb:=(lpI mask h r).2,dummy:=none}
 | 0,0,_=>rfl
 |r+1,0,_=>by
  have ih:=mL mask h r _ (ar _)
  show pAt mask h (lpT mask h r+(runEnd mask (lpI mask h r).1-(lpI mask h r).1)+1)=_
  show adv mask (pAt mask h (lpT mask h r+(runEnd mask (lpI mask h r).1-(lpI mask h r).1)))=_
  rw[ih]
  unfold adv
  simp only[bu,gt_iff_lt,di,bG]
  rfl
 |r,d+1,hd=>by
  have ih:=mL mask h r d (by omega)
  show adv mask (pAt mask h (lpT mask h r+d))=_
  rw[ih]
  unfold adv
  rw[aQ (by show _>0;simp only;omega)]
  simp only[Probe.mk.injEq,and_true,true_and]
  omega
theorem AH (mask:Nat)(h:Int):∀ r,(lpI mask h r).1<=mask
 | 0=>Nat.le_of_lt_succ (cO (bits h) (Nat.succ_pos mask))
 |r+1=>Nat.le_of_lt_succ (cO ((lpI mask h r).1*5+1+(lpI mask h r).2/32) (Nat.succ_pos mask))
theorem GO (h:Int):bits h<2 ^ 64:=by unfold bits;omega
theorem zp (mask:Nat)(h:Int):∀ r,(lpI mask h r).2=bits h/32 ^ r
 | 0=>by simp[lpI]
 |r+1=>by
  show(lpI mask h r).2/32=_
  rw[zp mask h r,Nat.div_div_eq_div_mul,ed]
theorem EE (mask:Nat)(h:Int){r:Nat}(hr:13<=r):(lpI mask h r).2=0:=by
 rw[zp]
 have h1:=GO h
 have h2:32 ^ 13<=32 ^ r:=dA (by decide) hr
 exact Nat.div_eq_of_lt (aU h1 (bw (by decide) h2))
theorem rC (mask:Nat)(h:Int){s:Nat}(hs:13<=s):∀ d,(lpI mask h (s+d)).1=lcg d (lpI mask h s).1%(mask+1)
 | 0=>by show(lpI mask h s).1=(lpI mask h s).1%(mask+1);rw[eC (Nat.lt_succ_of_le (AH mask h s))]
 |d+1=>by
  have ih:=rC mask h hs d
  show((lpI mask h (s+d)).1*5+1+(lpI mask h (s+d)).2/32)%(mask+1)=(5*lcg d (lpI mask h s).1+1)%(mask+1)
  rw[EE mask h (by omega),ih,Nat.zero_div,fb,Nat.mul_comm _ 5,Nat.add_mod,Nat.mul_mod_mod,<-Nat.add_mod]
variable {k j:Nat}
theorem BD (hk:mask+1=2 ^ k)(h:Int)(r0:Nat)(hj:j<=mask):∃ r,r0+1<=r/\r<=r0+mask+14/\(lpI mask h r).1=j:=by
 obtain⟨s,h1,h2,h3⟩:∃ s,13<=s/\r0+1<=s/\s<=r0+14:=by
  by_cases c:13<=r0+1
  ·exact⟨r0+1,c,by omega,by omega⟩
  ·exact⟨13,by omega,by omega,by omega⟩
 obtain⟨d,hd,e⟩:=tO k (lpI mask h s).1 j
 refine⟨s+d,by omega,by omega,?_⟩
 rw[rC mask h h1,hk,e,eC (by omega)]
theorem AG (mask:Nat)(h:Int)(r:Nat):∀ e,lpT mask h (r+e)<=lpT mask h r+10*e
 | 0=>ar _
 |e+1=>by
  have:=AG mask h r e
  have h2:=wB mask (lpI mask h (r+e)).1
  show lpT mask h (r+e)+(runEnd mask (lpI mask h (r+e)).1-(lpI mask h (r+e)).1)+1<=_
  omega
theorem yb (mask:Nat)(h:Int)(r:Nat):lpT mask h r<lpT mask h (r+1):=by
 show _<lpT mask h r+(runEnd mask (lpI mask h r).1-(lpI mask h r).1)+1
 omega
theorem rA (mask:Nat)(h:Int)(r:Nat):∀ e,lpT mask h r<=lpT mask h (r+e)
 | 0=>ar _
 |e+1=>bw (rA mask h r e) (bK (yb mask h (r+e)))
theorem rB (mask:Nat)(h:Int):∀ n,∃ r,lpT mask h r<=n/\n<lpT mask h (r+1)
 | 0=>⟨0,ar _,yb mask h 0⟩
 |n+1=>by
  obtain⟨r,h1,h2⟩:=rB mask h n
  by_cases c:n+1<lpT mask h (r+1)
  ·exact⟨r,by omega,c⟩
  ·exact⟨r+1,by omega,by have:=yb mask h (r+1);omega⟩
theorem Bz (hk:mask+1=2 ^ k)(h:Int)(n:Nat)(hj:j<=mask):∃ m,n<=m/\m<n+10*turns mask/\(pAt mask h m).j=j:=by
 obtain⟨r0,h1,h2⟩:=rB mask h n
 obtain⟨r,h3,h4,e⟩:=BD hk h r0 hj
 refine⟨lpT mask h r,?_,?_,?_⟩
 ·obtain⟨x,rfl⟩:∃ x,r=r0+1+x:=⟨r-(r0+1),by omega⟩
  have:=rA mask h (r0+1) x
  omega
 ·obtain⟨x,rfl⟩:∃ x,r=r0+x:=⟨r-r0,by omega⟩
  have:=AG mask h r0 x
  unfold turns
  omega
 ·have:=mL mask h r 0 (aI _)
  rw[fb]at this
  rw[this]
  simpa using e
theorem HZ (mask:Nat)(h:Int)(n:Nat):(pAt mask h n).j<=mask:=by
 obtain⟨r,h1,h2⟩:=rB mask h n
 have h3:=sR (AH mask h r)
 have h4:=mL mask h r (n-lpT mask h r) (by
  have:n<lpT mask h r+(runEnd mask (lpI mask h r).1-(lpI mask h r).1)+1:=h2
  omega)
 rw[show lpT mask h r+(n-lpT mask h r)=n by omega]at h4
 rw[h4]
 have:n<lpT mask h r+(runEnd mask (lpI mask h r).1-(lpI mask h r).1)+1:=h2
 have h5:=wC mask (lpI mask h r).1
 show(lpI mask h r).1+(n-lpT mask h r)<=mask
 omega
open SetTable
theorem vB {xs:Array Nat}{j:Nat}(hs:xs.toList.Pairwise (· < ·)):∀ fuel lo hi,hi-lo<=fuel->lo<=hi->hi<=xs.size->(∀ i (h:i<xs.size),i<lo->xs[i]<j)->(∀ i (h:i<xs.size),hi<=i->j<=xs[i])->
  below.go xs j fuel lo hi<=xs.size/\(∀ i (h:i<xs.size),i<below.go xs j fuel lo hi->xs[i]<j)/\(∀ i (h:i<xs.size),below.go xs j fuel lo hi<=i->j<=xs[i])
 | 0,lo,hi,h1,h2,h3,h4,h5=>by
  have:lo=hi:=by omega
  subst this
  exact⟨h3,h4,h5⟩
 |fuel+1,lo,hi,h1,h2,h3,h4,h5=>by
  unfold below.go
  by_cases c:lo<hi
  ·rw[aQ c]
   dsimp only
   have hm:(lo+hi)/2<xs.size:=by omega
   have e:xs.getD ((lo+hi)/2) j=xs[(lo+hi)/2]:=by simp[Array.getD,hm]
   have mono:∀ a b (ha:a<xs.size) (hb:b<xs.size),a<b->xs[a]<xs[b]:=λa b ha hb hab=>by
    have:=dH.mp hs a b (by simpa using ha) (by simpa using hb) hab
    simpa using this
   rw[e]
   by_cases d:xs[(lo+hi)/2]<j
   ·rw[aQ d]
    refine vB hs fuel _ _ (by omega) (by omega) h3 (λi h hi'=>?_) h5
    by_cases q:i=(lo+hi)/2
    ·subst q;exact d
    ·exact Nat.lt_trans (mono i _ h hm (by omega)) d
   ·rw[aG d]
    refine vB hs fuel _ _ (by omega) (by omega) (by omega) h4 (λi h hi'=>?_)
    by_cases q:i=(lo+hi)/2
    ·subst q;omega
    ·have:=mono _ i hm h (by omega);omega
  ·rw[aG c]
   have:lo=hi:=by omega
   subst this
   exact⟨h3,h4,h5⟩
theorem oG {xs:Array Nat}(hs:xs.toList.Pairwise (· < ·))(j:Nat):
  below xs j<=xs.size/\(∀ i (h:i<xs.size),i<below xs j->xs[i]<j)/\(∀ i (h:i<xs.size),below xs j<=i->j<=xs[i]):=
 vB hs xs.size 0 xs.size (by omega) (by omega) (ar _) (λi h c=>by omega) λi h c=>by omega
theorem below_at {xs:Array Nat}(hs:xs.toList.Pairwise (· < ·)){i:Nat}(h:xs[i]? = some j):below xs j=i:=by
 obtain⟨h1,h2,h3⟩:=oG hs j
 obtain⟨hi,e⟩:=bx.mp h
 have mono:∀ a b (ha:a<xs.size) (hb:b<xs.size),a<b->xs[a]<xs[b]:=λa b ha hb hab=>by
  have:=dH.mp hs a b (by simpa using ha) (by simpa using hb) hab
  simpa using this
 rcases Nat.lt_trichotomy (below xs j) i with c |c |c
 ·have:=h3 (below xs j) (by omega) (ar _)
  have:=mono _ _ (by omega) hi c
  omega
 ·exact c
 ·have:=h2 i hi c
  omega
theorem vV {xs:Array Nat}(hs:xs.toList.Pairwise (· < ·))(hj:j∉xs.toList):(insertAt xs (below xs j) j).toList.Pairwise (· < ·):=by
 obtain⟨h1,h2,h3⟩:=oG hs j
 rw[d8]
 have a:∀ y∈xs.toList.take (below xs j),y<j:=λy hy=>by
  obtain⟨i,hi,e⟩:=bF.mp hy
  rw[aM]at hi
  rw[ft]at e
  rw[<-e]
  exact h2 i (by simpa using(show i<xs.toList.length by omega)) (by omega)
 have b:∀ y∈xs.toList.drop (below xs j),j<y:=λy hy=>by
  obtain⟨i,hi,e⟩:=bF.mp hy
  rw[bA]at hi
  rw[List.getElem_drop]at e
  have hm:y∈xs.toList:=eK hy
  have:j≠y:=λz=>hj (z ▸ hm)
  have:=h3 (below xs j+i) (by simpa using(show below xs j+i<xs.toList.length by omega)) (by omega)
  rw[<-e]at *
  simp at *
  omega
 refine List.pairwise_append.mpr ⟨hs.sublist (List.take_sublist _ _),List.pairwise_cons.mpr ⟨b,hs.sublist (List.drop_sublist _ _)⟩,λx hx y hy=>?_⟩
 rcases aE.mp hy with rfl |hy
 ·exact a x hx
 ·exact Nat.lt_trans (a x hx) (b y hy)
theorem nM {t:SetTable}(hs:t.place.toList.Pairwise (· < ·)){i:Nat}(h:t.place[i]? = some j):t.slot j = .live i:=by
 unfold slot
 dsimp only
 rw[below_at hs h,h]
 simp
theorem uo {t:SetTable}(hd:t.dummies = #[])(h:j∉t.place.toList):t.slot j = .empty:=by
 unfold slot
 dsimp only
 rw[aG,hd,aG]
 ·simp[has]
 ·intro z
  have z':t.place[below t.place j]? = some j:=by simpa using z
  exact h (by rw[Array.mem_toList_iff];exact Array.mem_of_getElem? z')
theorem sub_len:∀ {l m:List Nat},l.Nodup->(∀ x∈l,x∈m)->l.length<=m.length
 |[],m,_,_=>aI _
 |x::l,m,hn,hs=>by
  rw[bq]at hn
  have hx:=hs x aC
  have:=@sub_len l (m.erase x) hn.2 λy hy=>by
   refine(cL ?_).mpr (hs y (aw _ hy))
   rintro rfl
   exact hn.1 hy
  have h2:=cP hx
  have h3:0<m.length:=List.length_pos_of_mem hx
  rw[aO]
  omega
theorem sa {l:List Nat}{mask:Nat}(h:l.length<=mask):∃ j,j<=mask/\j∉l:=by
 refine aJ λc=>?_
 have:=@sub_len (List.range (mask+1)) l fz λx hx=>aJ λq=>c ⟨x,by have:=br.mp hx;omega,q⟩
 rw[ck]at this
 omega
noncomputable def rT (mask:Nat)(taken:List Nat)(h:Int)(j:Nat):Prop:=∃ n,(pAt mask h n).j=j/\∀ m,m<n->(pAt mask h m).j∈taken
structure WFT (t:SetTable)(hs:List Int):Prop where
 pow:∃ k,3<=k/\t.mask+1=2 ^ k
 small:t.mask<=16777215
 dum:t.dummies = #[]
 rise:t.place.toList.Pairwise (· < ·)
 all:∀ j∈t.place.toList,j<=t.mask
 len:t.place.size=hs.length
 room:hs.length*5<t.mask*3
 reach:∀ i (h:i<hs.length) j,t.place[i]? = some j->rT t.mask t.place.toList hs[i] j
variable {hs:List Int}
theorem WFT.fits {t:SetTable}(W:WFT t hs):t.fits hs.length=true:=by
 have:=W.room
 simp only[SetTable.fits,SetTable.fill,W.len,W.dum,eB,Bool.true_and,dq]
 show hs.length+0<=t.mask
 omega
theorem WFT.Pl {t:SetTable}(W:WFT t hs):t.gaveWay=false:=by
 obtain⟨k,hk,e⟩:=W.pow
 obtain⟨k,rfl⟩:∃ q,k=q+1:=⟨k-1,by omega⟩
 rw[ed]at e
 unfold gaveWay
 have:t.mask%2=1:=by omega
 rw[this];rfl
theorem WFT.fresh (a b:Nat)(led:Bool):WFT (SetTable.fresh a b led) []:=
 ⟨⟨3,by decide,rfl⟩,(by show 7<=16777215;decide),rfl,List.Pairwise.nil,λj hj=>by simp[SetTable.fresh]at hj,rfl,(by show 0*5<7*3;decide),λi h=>by simp at h⟩
noncomputable def Hit (t:SetTable)(hs:List Int)(h:Int)(n:Nat):Prop:=(pAt t.mask h n).j∉t.place.toList\/∃ i,t.place[i]? = some (pAt t.mask h n).j/\hs.getD i 0=h
noncomputable def vi (t:SetTable)(h:Int)(n:Nat):SetTable.Met:=match t.slot (pAt t.mask h n).j with
 |.live i=>.candidate (pAt t.mask h n).j i (pAt t.mask h (n+1))
 |_=>.empty (pAt t.mask h n).j none
theorem DY {t:SetTable}(W:WFT t hs){ha:Nat->Int}{h:Int}(hh:∀ i,i<hs.length->ha i=hs.getD i 0):∀ (d fuel n:Nat),d<fuel->Hit t hs h (n+d)->(∀ m,n<=m->m<n+d->¬Hit t hs h m)->
  SetTable.probe.go t ha h fuel (pAt t.mask h n)=some (vi t h (n+d)):=by
 intro d
 induction d with
 |zero=>
  intro fuel n hf hit _
  obtain⟨f,rfl⟩:∃ f,fuel=f+1:=⟨fuel-1,by omega⟩
  unfold SetTable.probe.go vi
  rw[fb]at hit ⊢
  rcases hit with z |⟨i,z,e⟩
  ·rw[uo W.dum z,wR]
  ·rw[nM W.rise z]
   have hi:i<hs.length:=by rw[<-W.len];exact(bx.mp z).1
   dsimp only
   rw[hh i hi,e,eB,aQ rfl,Fv]
   rfl
 |succ d ih=>
  intro fuel n hf hit hno
  obtain⟨f,rfl⟩:∃ f,fuel=f+1:=⟨fuel-1,by omega⟩
  have hn:=hno n (ar _) (by omega)
  unfold Hit at hn
  rw[not_or,Classical.not_not]at hn
  obtain⟨n1,n2⟩:=hn
  obtain⟨i,hi⟩:=Array.mem_iff_getElem?.mp (Array.mem_toList_iff.mp n1)
  have hi':i<hs.length:=by rw[<-W.len];exact(bx.mp hi).1
  unfold SetTable.probe.go
  rw[nM W.rise hi]
  dsimp only
  rw[hh i hi',aG (by intro z;exact n2 ⟨i,hi,by simpa using z⟩),Fv]
  have:=ih f (n+1) (by omega) (by rw[show n+1+d=n+(d+1) by omega];exact hit) λm h1 h2=>hno m (by omega) (by omega)
  rw[show n+(d+1)=n+1+d by omega]
  exact this
theorem sA {P:Nat->Prop} :∀ d n,P (n+d)->∃ e,e<=d/\P (n+e)/\∀ m,n<=m->m<n+e->¬P m
 | 0,n,h=>⟨0,ar _,h,λm h1 h2=>by omega⟩
 |d+1,n,h=>by
  by_cases c:P n
  ·exact⟨0,aI _,c,λm h1 h2=>by omega⟩
  ·obtain⟨e,h1,h2,h3⟩:=sA (P:=P) d (n+1) (by rw[show n+1+d=n+(d+1) by omega];exact h)
   refine⟨e+1,by omega,by rw[show n+(e+1)=n+1+e by omega];exact h2,λm h4 h5=>?_⟩
   by_cases q:m=n
   ·subst q;exact c
   ·exact h3 m (by omega) (by omega)
theorem Ar {t:SetTable}(W:WFT t hs){ha:Nat->Int}{h:Int}(hh:∀ i,i<hs.length->ha i=hs.getD i 0)(n:Nat):
  ∃ m,n<=m/\Hit t hs h m/\(∀ q,n<=q->q<m->¬Hit t hs h q)/\t.probe ha h (pAt t.mask h n)=some (vi t h m):=by
 obtain⟨k,_,hk⟩:=W.pow
 obtain⟨j,hj,hf⟩:=@sa t.place.toList t.mask (by
  have:=W.room;have h1:=W.len
  rw[aS];omega)
 obtain⟨m,h1,h2,e⟩:=Bz hk h n hj
 obtain⟨d,rfl⟩:∃ d,m=n+d:=⟨m-n,by omega⟩
 obtain⟨e',h3,h4,h5⟩:=sA (P:=Hit t hs h) d n (.inl (by rw[e];exact hf))
 exact⟨n+e',by omega,h4,h5,DY W hh e' _ n (by omega) h4 h5⟩
variable {n:Nat}
theorem WFT.put {t:SetTable}(W:WFT t hs){h:Int}(he:(pAt t.mask h n).j∉t.place.toList)(hn:∀ m,m<n->(pAt t.mask h m).j∈t.place.toList)(b:Bool)
  (hr:(hs.length+1)*5<t.mask*3):WFT {(t.put (pAt t.mask h n).j).1 with plain:=b} (hs.take (t.put (pAt t.mask h n).j).2++h::hs.drop (t.put (pAt t.mask h n).j).2):=by
 generalize hj:(pAt t.mask h n).j=j at he
 have hp:(t.put j).2=below t.place j:=rfl
 have hpl:(t.put j).1.place=insertAt t.place (below t.place j) j:=rfl
 have hle:=(oG W.rise j).1
 have hL:(insertAt t.place (below t.place j) j).toList=t.place.toList.take (below t.place j)++j::t.place.toList.drop (below t.place j):=d8 ..
 have ph:∀ x,x∈t.place.toList->x∈(insertAt t.place (below t.place j) j).toList:=λx hx=>by
  rw[hL]
  rw[<-cG (below t.place j) t.place.toList]at hx
  rcases aD.mp hx with z |z
  ·exact bz _ z
  ·exact az _ (aw _ z)
 have len:(hs.take (below t.place j)++h::hs.drop (below t.place j)).length=hs.length+1:=by
  rw[ak,aO,aM,bA]
  have:=W.len
  omega
 refine⟨W.pow,W.small,?_,vV W.rise he,λx hx=>?_,?_,?_,λi hi x hx=>?_⟩
 ·show(if has t.dummies j then eraseAt t.dummies (below t.dummies j)else t.dummies) = #[]
  rw[W.dum]
  simp[has]
 ·have hx:x∈(insertAt t.place (below t.place j) j).toList:=hx
  show x<=t.mask
  rw[hL]at hx
  rcases aD.mp hx with z |z
  ·exact W.all x (dB z)
  ·rcases aE.mp z with rfl |z
   ·rw[<-hj];exact HZ t.mask h n
   ·exact W.all x (eK z)
 ·rw[hp,len]
  show(insertAt t.place (below t.place j) j).size=_
  rw[<-aS,hL,ak,aO,aM,bA,aS,W.len]
  have:=W.len
  omega
 ·rw[hp,len];exact hr
 ·rw[hp]at hi
  have hx:(insertAt t.place (below t.place j) j)[i]? = some x:=hx
  rw[<-bC,hL]at hx
  have hg:∀ (y:Int),(hs.take (below t.place j)++h::hs.drop (below t.place j))[i]? = some y->rT t.mask (insertAt t.place (below t.place j) j).toList y x:=by
   intro y hy
   have up:∀ {y x},rT t.mask t.place.toList y x->rT t.mask (insertAt t.place (below t.place j) j).toList y x:=λ{y x} ⟨n,a,b⟩=>⟨n,a,λm hm=>ph _ (b m hm)⟩
   have hlt:(hs.take (below t.place j)).length=below t.place j:=by rw[aM];have:=W.len;omega
   have Ky:(t.place.toList.take (below t.place j)).length=below t.place j:=by rw[aM,aS];omega
   rcases Nat.lt_trichotomy i (below t.place j)with c |c |c
   ·rw[aq (by omega),fx c]at hx hy
    obtain⟨hl,e⟩:=af.mp hy
    have:=W.reach i hl x (by rw[<-bC];exact hx)
    rw[e]at this
    exact up this
   ·subst c
    rw[ay (by omega),hlt,bu]at hy
    rw[ay (by omega),Ky,bu]at hx
    simp at hx hy
    subst hx hy
    exact⟨n,hj,λm hm=>ph _ (hn m hm)⟩
   ·obtain⟨i,rfl⟩:∃ q,i=q+1:=⟨i-1,by omega⟩
    rw[ay (by omega),hlt,show i+1-below t.place j=(i-below t.place j)+1 by omega,fC,cY,show below t.place j+(i-below t.place j)=i by omega]at hy
    rw[ay (by omega),Ky,show i+1-below t.place j=(i-below t.place j)+1 by omega,fC,cY,show below t.place j+(i-below t.place j)=i by omega]at hx
    obtain⟨hl,e⟩:=af.mp hy
    have:=W.reach i hl x (by rw[<-bC];exact hx)
    rw[e]at this
    exact up this
  exact hg _ (ag hi)
open SetTable
noncomputable def qL (owner:Array (Option Nat))(j:Nat):Prop:=∃ i,owner[j]? = some (some i)
variable {owner:Array (Option Nat)}
theorem CV (hz:owner.size=mask+1)(h:Int):∀ fuel r,(∃ r',r<=r'/\r'<r+fuel/\owner[(lpI mask h r').1]? = some none)->
  ∃ n j,layClean.free mask owner fuel (lpI mask h r).1 (lpI mask h r).2=some j/\lpT mask h r<=n/\(pAt mask h n).j=j/\owner[j]? = some none/\∀ m,lpT mask h r<=m->m<n->qL owner (pAt mask h m).j:=by
 intro fuel
 induction fuel with
 |zero=>rintro r ⟨r',h1,h2,_⟩;omega
 |succ fuel ih=>
  rintro r ⟨r',h1,h2,h3⟩
  have hrm:=sR (AH mask h r)
  have hrg:=wC mask (lpI mask h r).1
  have IS:∀ k,k<runEnd mask (lpI mask h r).1+1-(lpI mask h r).1->∃ o,owner[(lpI mask h r).1+k]? = some o/\owner.getD ((lpI mask h r).1+k) (some 0)=o:=λk hk=>by
   have hl:(lpI mask h r).1+k<owner.size:=by omega
   exact⟨owner[(lpI mask h r).1+k],bD hl,by simp[Array.getD,hl]⟩
  have hj:∀ k,k<runEnd mask (lpI mask h r).1+1-(lpI mask h r).1->(pAt mask h (lpT mask h r+k)).j=(lpI mask h r).1+k:=λk hk=>by
   rw[mL mask h r k (by omega)]
  unfold layClean.free
  cases hf:(List.range (runEnd mask (lpI mask h r).1+1-(lpI mask h r).1)).find? λk=>(owner.getD ((lpI mask h r).1+k) (some 0)).isNone with
  |some k=>
   dsimp only
   obtain⟨hk1,as,bs,hk2,hk3⟩:=List.find?_eq_some_iff_append.mp hf
   have hkm:k<runEnd mask (lpI mask h r).1+1-(lpI mask h r).1:=by
    have:=fk hf
    simpa using this
   obtain⟨o,o1,o2⟩:=IS k hkm
   rw[o2]at hk1
   have:o=none:=by cases o with |none=>rfl |some _=>simp at hk1
   subst this
   refine⟨lpT mask h r+k,_,rfl,dE _ _,hj k hkm,o1,λm m1 m2=>?_⟩
   obtain⟨k',rfl⟩:∃ k',m=lpT mask h r+k':=⟨m-lpT mask h r,by omega⟩
   obtain⟨o',o3,o4⟩:=IS k' (by omega)
   rw[hj k' (by omega)]
   have hin:k'∈as:=by
    have e1:(List.range (runEnd mask (lpI mask h r).1+1-(lpI mask h r).1))[as.length]? = some k:=by rw[hk2];simp
    have e2:as.length=k:=by
     rw[af]at e1
     obtain⟨_,e1⟩:=e1
     simpa using e1
    have e3:(List.range (runEnd mask (lpI mask h r).1+1-(lpI mask h r).1))[k']? = some k':=by
     rw[eW (by omega)]
    rw[hk2,aq (by omega)]at e3
    exact au e3
   have:=hk3 k' hin
   rw[o4]at this
   cases o' with
   |none=>simp at this
   |some i=>exact⟨i,o3⟩
  |none=>
   dsimp only
   have mP:=List.find?_eq_none.mp hf
   have hno:∀ k,k<runEnd mask (lpI mask h r).1+1-(lpI mask h r).1->qL owner ((lpI mask h r).1+k):=λk hk=>by
    obtain⟨o,o1,o2⟩:=IS k hk
    have:=mP k (br.mpr hk)
    rw[o2]at this
    cases o with
    |none=>simp at this
    |some i=>exact⟨i,o1⟩
   have hne:r'≠r:=by
    rintro rfl
    obtain⟨i,e⟩:=hno 0 (by omega)
    rw[fb,h3]at e
    cases e
   obtain⟨n,j,e1,e2,e3,e4,e5⟩:=ih (r+1) ⟨r',by omega,by omega,h3⟩
   refine⟨n,j,e1,bw (bK (yb mask h r)) e2,e3,e4,λm m1 m2=>?_⟩
   by_cases c:m<lpT mask h (r+1)
   ·have c':m<lpT mask h r+(runEnd mask (lpI mask h r).1-(lpI mask h r).1)+1:=c
    obtain⟨k',rfl⟩:∃ k',m=lpT mask h r+k':=⟨m-lpT mask h r,by omega⟩
    rw[hj k' (by omega)]
    exact hno k' (by omega)
   ·exact e5 m (by omega) m2
structure Laid (mask:Nat)(hs:List Int)(owner:Array (Option Nat))(k:Nat):Prop where
 size:owner.size=mask+1
 only:∀ (j i:Nat),owner[j]? = some (some i)->i<k
 one:∀ (i j j':Nat),owner[j]? = some (some i)->owner[j']? = some (some i)->j=j'
 each:∀ i (h:i<hs.length),i<k->∃ (j n:Nat),owner[j]? = some (some i)/\(pAt mask hs[i] n).j=j/\∀ m,m<n->qL owner (pAt mask hs[i] m).j
theorem CK (L:Laid mask hs owner k)(hk:k<=mask):∃ j,j<=mask/\owner[j]? = some none:=by
 refine aJ λc=>?_
 have mP:∀ j,j<=mask->∃ i,owner[j]? = some (some i):=λj hj=>by
  have hl:j<owner.size:=by rw[L.size];omega
  cases e:owner[j]with
  |none=>exact(c ⟨j,hj,by rw[bD hl,e]⟩).elim
  |some i=>exact⟨i,by rw[bD hl,e]⟩
 let f:Nat->Nat:=λj=>match owner[j]? with |some (some i)=>i |_=>0
 have hf:∀ j,j<=mask->owner[j]? = some (some (f j)):=λj hj=>by
  obtain⟨i,e⟩:=mP j hj
  show _=some (some (match owner[j]? with |some (some i)=>i |_=>0))
  rw[e]
 have:=@sub_len ((List.range (mask+1)).map f) (List.range k) (by
  rw[List.Nodup,cK]
  refine dR (λ{a b} ha hb hab e=>?_) (fz (n:=mask+1))
  have ha:=br.mp ha
  have hb:=br.mp hb
  have h1:=hf a (by omega)
  have h2:=hf b (by omega)
  rw[e]at h1
  exact hab (L.one _ _ _ h1 h2)) λx hx=>by
   obtain⟨j,hj,rfl⟩:=ao.mp hx
   exact br.mpr (L.only j _ (hf j (by have:=br.mp hj;omega)))
 rw[aa,ck,ck]at this
 omega
noncomputable def BH (mask:Nat)(acc:Option (Array (Option Nat)×Nat))(h:Int):Option (Array (Option Nat)×Nat):=do
  let (owner,k) <-acc
  let j <-layClean.free mask owner (turns mask) (bits h%(mask+1)) (bits h)
  pure (owner.setIfInBounds j (some k),k+1)
theorem EG {p:Nat}(hp:mask+1=2 ^ p)(L:Laid mask hs owner k)(hk:k<hs.length)(hm:hs.length<=mask):
  ∃ uH,BH mask (some (owner,k)) hs[k]=some (uH,k+1)/\Laid mask hs uH (k+1):=by
 obtain⟨j0,h1,h2⟩:=CK L (by omega)
 obtain⟨r,r1,r2,r3⟩:=BD hp hs[k] 0 h1
 obtain⟨n,j,e1,e2,e3,e4,e5⟩:=CV L.size hs[k] (turns mask) 0 ⟨r,by omega,by unfold turns;omega,by rw[r3];exact h2⟩
 refine⟨owner.setIfInBounds j (some k),?_,?_⟩
 ·have e1':layClean.free mask owner (turns mask) (bits hs[k]%(mask+1)) (bits hs[k])=some j:=e1
  show(layClean.free mask owner (turns mask) (bits hs[k]%(mask+1)) (bits hs[k]) >>= λj=>pure (owner.setIfInBounds j (some k),k+1))=_
  rw[e1'];rfl
 have hj:j<owner.size:=(bx.mp e4).1
 have zt:(owner.setIfInBounds j (some k))[j]? = some (some k):=by simp[hj]
 have CS:∀ x,x≠j->(owner.setIfInBounds j (some k))[x]? = owner[x]? :=λx hx=>by simp[Array.getElem?_setIfInBounds,bI hx]
 have up:∀ x,qL owner x->qL (owner.setIfInBounds j (some k)) x:=λx ⟨i,hi⟩=>by
  by_cases c:x=j
  ·subst c;exact⟨k,zt⟩
  ·exact⟨i,by rw[CS x c];exact hi⟩
 refine⟨by simp[L.size],λx i hx=>?_,λi x y hx hy=>?_,λi hi hik=>?_⟩
 ·by_cases c:x=j
  ·subst c;rw[zt]at hx;cases hx;omega
  ·rw[CS x c]at hx;have:=L.only x i hx;omega
 ·by_cases c:x=j
  ·by_cases d:y=j
   ·rw[c,d]
   ·subst c;rw[zt]at hx;cases hx
    rw[CS y d]at hy;have:=L.only y _ hy;omega
  ·rw[CS x c]at hx
   by_cases d:y=j
   ·subst d;rw[zt]at hy;cases hy;have:=L.only x _ hx;omega
   ·rw[CS y d]at hy;exact L.one i x y hx hy
 ·by_cases c:i=k
  ·subst c
   exact⟨j,n,zt,e3,λm hm=>up _ (e5 m (aI _) hm)⟩
  ·obtain⟨x,n',q1,q2,q3⟩:=L.each i hi (by omega)
   refine⟨x,n',?_,q2,λm hm=>up _ (q3 m hm)⟩
   rw[CS x (λz=>by subst z;rw[e4]at q1;cases q1)]
   exact q1
theorem BG {mask p:Nat}(hp:mask+1=2 ^ p)(hs:List Int)(hm:hs.length<=mask):∀ (rest:List Int) (k:Nat) (owner:Array (Option Nat)),hs.drop k=rest->k<=hs.length->Laid mask hs owner k->
  ∃ uH,rest.foldl (BH mask) (some (owner,k))=some (uH,hs.length)/\Laid mask hs uH hs.length
 |[],k,owner,e,hk,L=>by
  have:k=hs.length:=by have:=cf List.length e;rw[bA]at this;simp at this;omega
  subst this
  exact⟨owner,rfl,L⟩
 |x::rest,k,owner,e,hk,L=>by
  have hlt:k<hs.length:=by have:=cf List.length e;rw[bA]at this;simp at this;omega
  have hx:hs[k]=x/\hs.drop (k+1)=rest:=by
   rw[List.drop_eq_getElem_cons hlt]at e
   injection e with a b
   exact⟨a,b⟩
  obtain⟨o',e1,L'⟩:=EG hp L hlt hm
  rw[hx.1]at e1
  obtain⟨o2,e2,L2⟩:=BG hp hs hm rest (k+1) o' hx.2 hlt L'
  exact⟨o2,by rw[eR,e1];exact e2,L2⟩
theorem zq {p:Nat}(hp:mask+1=2 ^ p){hs:Array Int}(hm:hs.size<=mask):∃ owner,layClean mask hs=some owner/\Laid mask hs.toList owner hs.size:=by
 obtain⟨o,e,L⟩:=BG hp hs.toList (by simpa using hm) hs.toList 0 (Array.replicate (mask+1) none) rfl (aI _)
  ⟨by simp,λj i h=>by simp[Array.getElem?_replicate]at h,λi j j' h=>by simp[Array.getElem?_replicate]at h,λi _ h=>by omega⟩
 refine⟨o,?_,by simpa using L⟩
 unfold layClean
 rw[<-Array.foldl_toList]
 have e':hs.toList.foldl (λacc h=>do
  let (owner,k) <-acc
  let j <-layClean.free mask owner (turns mask) (bits h%(mask+1)) (bits h)
  pure (owner.setIfInBounds j (some k),k+1)) (some (Array.replicate (mask+1) none,0))=some (o,hs.toList.length):=e
 rw[e']
 rfl
noncomputable def iJ (mask:Nat)(owner:Array (Option Nat)):List (Nat×Nat):=(List.range (mask+1)).filterMap λj=>(owner.getD j none).map (j,·)
theorem jL (hz:owner.size=mask+1){i:Nat} :(j,i)∈iJ mask owner↔owner[j]? = some (some i):=by
 unfold iJ
 rw[fi]
 constructor
 ·rintro⟨x,hx,e⟩
  have hx:=br.mp hx
  have hl:x<owner.size:=by omega
  have:owner.getD x none=owner[x]:=by simp[Array.getD,hl]
  rw[this]at e
  cases q:owner[x]with
  |none=>rw[q]at e;simp at e
  |some y=>
   rw[q]at e
   simp at e
   obtain⟨rfl,rfl⟩:=e
   rw[bD hl,q]
 ·intro h
  obtain⟨hl,e⟩:=bx.mp h
  refine⟨j,br.mpr (by omega),?_⟩
  simp[Array.getD,hl,e]
theorem sr (owner:Array (Option Nat))(mask:Nat):(iJ mask owner).Pairwise λa b=>a.1<b.1:=by
 unfold iJ
 rw[List.pairwise_filterMap]
 refine List.Pairwise.imp (λ{a b} hab x hx y hy=>?_) (List.pairwise_lt_range (n:=mask+1))
 rw[Option.map_eq_some_iff]at hx hy
 obtain⟨_,_,rfl⟩:=hx
 obtain⟨_,_,rfl⟩:=hy
 exact hab
theorem uE {l:List Nat}(hn:l.Nodup)(h:∀ i,i∈l↔i<n):l.Perm (List.range n):=by
 refine(List.perm_ext_iff_of_nodup hn fz).mpr λi=>?_
 rw[h i,br]
theorem Gn {p:Nat}(hp:mask+1=2 ^ p)(h3:3<=p){hs:Array Int}(hm:hs.size*5<mask*3)(hsm:mask<=16777215)(fg mv:Nat)(led plain:Bool):
  ∃ t order,SetTable.laid mask fg mv led plain hs=some (t,order)/\t.led=led/\t.mask=mask/\order.toList.Perm (List.range hs.size)/\WFT t (order.toList.map λi=>hs.getD i 0):=by
 obtain⟨owner,e,L⟩:=zq hp (hs:=hs) (by omega)
 refine⟨_,_,by unfold SetTable.laid;rw[e];rfl,rfl,rfl,?_,?_⟩
 ·show((iJ mask owner).map (·.2)).toArray.toList.Perm _
  rw[cQ]
  refine uE ?_ λi=>?_
  ·rw[List.Nodup,cK]
   refine dR (λ{a b} ha hb hab z=>?_) (sr owner mask)
   have ha:=(jL L.size (j:=a.1) (i:=a.2)).mp ha
   have hb:=(jL L.size (j:=b.1) (i:=b.2)).mp hb
   rw[z]at ha
   have:=L.one _ _ _ ha hb
   omega
  ·rw[ao]
   constructor
   ·rintro⟨⟨j,i'⟩,hj,rfl⟩
    exact L.only j i' ((jL L.size).mp hj)
   ·intro hi
    obtain⟨j,n,e1,_⟩:=L.each i (by simpa using hi) hi
    exact⟨(j,i),(jL L.size).mpr e1,rfl⟩
 ·have w5:((iJ mask owner).map (·.2)).Perm (List.range hs.size):=by
   refine uE ?_ λi=>?_
   ·rw[List.Nodup,cK]
    refine dR (λ{a b} ha hb hab z=>?_) (sr owner mask)
    have ha:=(jL L.size (j:=a.1) (i:=a.2)).mp ha
    have hb:=(jL L.size (j:=b.1) (i:=b.2)).mp hb
    rw[z]at ha
    have:=L.one _ _ _ ha hb
    omega
   ·rw[ao]
    constructor
    ·rintro⟨⟨j,i'⟩,hj,rfl⟩
     exact L.only j i' ((jL L.size).mp hj)
    ·intro hi
     obtain⟨j,n,e1,_⟩:=L.each i (by simpa using hi) hi
     exact⟨(j,i),(jL L.size).mpr e1,rfl⟩
  have hlen:(iJ mask owner).length=hs.size:=by
   have:=w5.length_eq
   rw[aa,ck]at this
   exact this
  refine⟨⟨p,h3,hp⟩,hsm,rfl,?_,λj hj=>?_,?_,?_,λi hi j hj=>?_⟩
  ·show((iJ mask owner).map (·.1)).toArray.toList.Pairwise (· < ·)
   rw[cQ,cK]
   exact sr owner mask
  ·have hj:j∈((iJ mask owner).map (·.1)).toArray.toList:=hj
   rw[cQ]at hj
   obtain⟨⟨a,b⟩,hab,rfl⟩:=ao.mp hj
   have:=(bx.mp ((jL L.size).mp hab)).1
   show a<=mask
   have:=L.size
   omega
  ·show((iJ mask owner).map (·.1)).toArray.size=(((iJ mask owner).map (·.2)).toArray.toList.map _).length
   simp
  ·show(((iJ mask owner).map (·.2)).toArray.toList.map _).length*5<mask*3
   rw[cQ,aa,aa,hlen]
   exact hm
  ·have hj:((iJ mask owner).map (·.1)).toArray[i]? = some j:=hj
   rw[List.getElem?_toArray,ah]at hj
   have hi':i<(iJ mask owner).length:=by simpa [iJ]using hi
   rw[ag hi']at hj
   simp only[eO,Option.some.injEq]at hj
   have ph:(iJ mask owner)[i]∈iJ mask owner:=fB hi'
   have ho:=(jL L.size (j:=(iJ mask owner)[i].1) (i:=(iJ mask owner)[i].2)).mp ph
   have hlt:=L.only _ _ ho
   obtain⟨j',n,e1,e2,e3⟩:=L.each (iJ mask owner)[i].2 (by simpa using hlt) hlt
   have hjj:=L.one _ _ _ ho e1
   have hh:(((iJ mask owner).map (·.2)).toArray.toList.map λi=>hs.getD i 0)[i]'(by simpa using hi')=hs.toList[(iJ mask owner)[i].2]'(by simpa using hlt):=by
    simp[Array.getD,hlt]
   show rT mask _ _ j
   refine⟨n,?_,λm hm'=>?_⟩
   ·have:(pAt mask ((((iJ mask owner).map (·.2)).toArray.toList.map λi=>hs.getD i 0)[i]'(by simpa using hi')) n).j=j:=by rw[hh,e2,<-hj,hjj]
    exact this
   ·have h5:=e3 m hm'
    have:(pAt mask ((((iJ mask owner).map (·.2)).toArray.toList.map λi=>hs.getD i 0)[i]'(by simpa using hi')) m).j∈((iJ mask owner).map (·.1)).toArray.toList:=by
     rw[hh,cQ]
     obtain⟨i2,h6⟩:=h5
     exact ao.mpr ⟨(_,i2),(jL L.size).mpr h6,rfl⟩
    exact this
theorem qR:∀ fuel size n,(∃ k,3<=k/\size=2 ^ k)->n<size*2 ^ fuel->∃ k,3<=k/\sizeAbove.go n fuel size=2 ^ k/\n<sizeAbove.go n fuel size
 | 0,size,n,⟨k,hk,e⟩,h=>⟨k,hk,e,by simpa [sizeAbove.go]using h⟩
 |fuel+1,size,n,⟨k,hk,e⟩,h=>by
  unfold sizeAbove.go
  by_cases c:size<=n
  ·rw[aQ c]
   exact qR fuel (size*2) n ⟨k+1,by omega,by rw[ed,e]⟩ (by rw[bU,<-Nat.pow_succ'];exact h)
  ·rw[aG c]
   exact⟨k,hk,e,by omega⟩
theorem xE (h:n<2 ^ 60):∃ k,3<=k/\sizeAbove n=2 ^ k/\n<sizeAbove n:=
 qR 64 8 n ⟨3,by decide,rfl⟩ (Nat.lt_trans h (by decide))
theorem qQ:∀ fuel size n k,(∃ q,q<=k/\size=2 ^ q)->n<2 ^ k->sizeAbove.go n fuel size<=2 ^ k
 | 0,size,n,k,⟨q,h1,h2⟩,h=>by unfold sizeAbove.go;rw[h2];exact dA (by decide) h1
 |fuel+1,size,n,k,⟨q,h1,h2⟩,h=>by
  unfold sizeAbove.go
  by_cases c:size<=n
  ·rw[aQ c]
   refine qQ fuel (size*2) n k ⟨q+1,?_,by rw[h2,ed]⟩ h
   refine aJ λz=>?_
   have:q=k:=by omega
   subst this
   omega
  ·rw[aG c,h2];exact dA (by decide) h1
open SetTable
theorem Gk (x:Nat){d d':Nat}(hd:d<2 ^ k)(hd':d'<2 ^ k)(h:lcg d x%2 ^ k=lcg d' x%2 ^ k):d=d':=by
 refine aJ λc=>?_
 have h1:=@sub_len (List.range (2 ^ k)) (((List.range (2 ^ k)).erase d').map λe=>lcg e x%2 ^ k) fz λy hy=>by
  have hy:=br.mp hy
  obtain⟨e,he,e1⟩:=tO k x y
  rw[eC hy]at e1
  by_cases q:e=d'
  ·exact ao.mpr ⟨d,(cL c).mpr (br.mpr hd),by rw[h,<-q];exact e1⟩
  ·exact ao.mpr ⟨e,(cL q).mpr (br.mpr he),e1⟩
 rw[aa,cP (br.mpr hd'),ck]at h1
 have:=Nat.two_pow_pos k
 omega
theorem Fs (hk:mask+1=2 ^ k)(h:Int){r r':Nat}(h1:13<=r/\r<13+2 ^ k)(h2:13<=r'/\r'<13+2 ^ k)(e:(lpI mask h r).1=(lpI mask h r').1):r=r':=by
 obtain⟨d,rfl⟩:∃ d,r=13+d:=⟨r-13,by omega⟩
 obtain⟨d',rfl⟩:∃ d',r'=13+d':=⟨r'-13,by omega⟩
 rw[rC mask h (ar 13),rC mask h (ar 13),hk]at e
 have:=Gk _ (by omega) (by omega) e
 omega
noncomputable def GU (t:SetTable)(hs:List Int)(h:Int)(m:Nat):Prop:=∃ i,t.place[i]? = some (pAt t.mask h m).j/\hs.getD i 0=h
theorem GN {t:SetTable}{h:Int}{m:Nat}(g:Hit t hs h m)(hin:(pAt t.mask h m).j∈t.place.toList):GU t hs h m:=g.elim (λz=>absurd hin z) λz=>z
noncomputable def vis (P:Nat->Prop) (n m0:Nat):List Nat:=(List.range' n (m0-n)).filter λm=>@decide (P m) (Classical.propDecidable _)
theorem qI {P:Nat->Prop}{m0 m:Nat} :m∈vis P n m0↔(n<=m/\m<m0)/\P m:=by
 unfold vis
 rw[bE,List.mem_range'_1,@decide_eq_true_iff _ (Classical.propDecidable _)]
 constructor
 ·rintro⟨a,b⟩;exact⟨by omega,b⟩
 ·rintro⟨a,b⟩;exact⟨by omega,b⟩
theorem Du {P:Nat->Prop}{m0:Nat} :(vis P n m0).Nodup:=List.Nodup.sublist eX List.nodup_range'
theorem Dt {P:Nat->Prop}{m m0:Nat}(h1:n<=m)(h2:m<m0)(hp:P m):(vis P (m+1) m0).length+1<=(vis P n m0).length:=by
 have:=@sub_len (m::vis P (m+1) m0) (vis P n m0) (bq.mpr ⟨λz=>by have:=(qI.mp z).1;omega,Du⟩) λx hx=>by
  rcases aE.mp hx with rfl |hx
  ·exact qI.mpr ⟨⟨h1,h2⟩,hp⟩
  ·have:=qI.mp hx
   exact qI.mpr ⟨by omega,this.2⟩
 rw[aO]at this
 exact this
theorem GJ (hs:List Int)(h:Int):((List.range hs.length).filter λi=>decide (hs.getD i 0=h)).length=(hs.filter λx=>decide (x=h)).length:=by
 have e:hs=(List.range hs.length).map λi=>hs.getD i 0:=by
  refine List.ext_getElem (by simp) λi h1 h2=>?_
  rw[bY,List.getElem_range,aF,ag h1];rfl
 have:(hs.filter λx=>decide (x=h))=(((List.range hs.length).map λi=>hs.getD i 0).filter λx=>decide (x=h)):=by rw[<-e]
 rw[this,List.filter_map,aa];rfl
theorem FN {t:SetTable}(W:WFT t hs)(h:Int){m0:Nat}(g2:∀ m,m<m0->(pAt t.mask h m).j∈t.place.toList):
  (vis (GU t hs h) 0 m0).length<=130+10*(hs.filter λx=>decide (x=h)).length:=by
 obtain⟨k,_,hk⟩:=W.pow
 obtain⟨j0,hj0,hf⟩:=@sa t.place.toList t.mask (by
  have:=W.room;have h1:=W.len
  rw[aS];omega)
 obtain⟨d0,hd0,e0⟩:=tO k (lpI t.mask h 13).1 j0
 have er:(lpI t.mask h (13+d0)).1=j0:=by rw[rC t.mask h (ar 13),hk,e0,eC (by omega)]
 have hm0:m0<=lpT t.mask h (13+d0):=aJ λc=>by
  have h1:=g2 (lpT t.mask h (13+d0)) (by omega)
  have h2:=mL t.mask h (13+d0) 0 (aI _)
  rw[fb]at h2
  rw[h2]at h1
  dsimp only at h1
  rw[fb,er]at h1
  exact hf h1
 let rq:Nat->Nat->Nat:=λj q=>@dite _ (∃ r,(13<=r/\r<13+2 ^ k)/\(lpI t.mask h r).1+q=j) (Classical.propDecidable _) (λx=>Classical.choose x) λ_=>0
 have hrq:∀ r q j,(13<=r/\r<13+2 ^ k)->(lpI t.mask h r).1+q=j->rq j q=r:=λr q j h1 h2=>by
  have ex:∃ r,(13<=r/\r<13+2 ^ k)/\(lpI t.mask h r).1+q=j:=⟨r,h1,h2⟩
  have e:rq j q=Classical.choose ex:=@dif_pos _ (Classical.propDecidable _) ex Nat (λx=>Classical.choose x) λ_=>0
  rw[e]
  have:=Classical.choose_spec ex
  exact Fs hk h this.1 h1 (by omega)
 have h1:=@sub_len (vis (GU t hs h) 0 m0) (List.range 130++(((List.range hs.length).filter λi=>decide (hs.getD i 0=h)).flatMap λi=>(List.range 10).map λq=>lpT t.mask h (rq (t.place.getD i 0) q)+q)) Du λm hm=>by
  obtain⟨⟨_,hm⟩,i,hi,e⟩:=qI.mp hm
  obtain⟨r,r1,r2⟩:=rB t.mask h m
  rw[aD]
  by_cases c:r<13
  ·left
   have h3:=AG t.mask h 0 13
   have h4:lpT t.mask h 0=0:=rfl
   obtain⟨z,hz⟩:∃ z,13=r+1+z:=⟨12-r,by omega⟩
   have h5:=rA t.mask h (r+1) z
   rw[<-hz]at h5
   rw[d9]at h3
   exact br.mpr (by omega)
  ·right
   have hd:m-lpT t.mask h r<=runEnd t.mask (lpI t.mask h r).1-(lpI t.mask h r).1:=by
    have:m<lpT t.mask h r+(runEnd t.mask (lpI t.mask h r).1-(lpI t.mask h r).1)+1:=r2
    omega
   have h4:=mL t.mask h r (m-lpT t.mask h r) hd
   rw[show lpT t.mask h r+(m-lpT t.mask h r)=m by omega]at h4
   have h5:=wB t.mask (lpI t.mask h r).1
   have hr:r<13+d0:=aJ λq=>by
    obtain⟨z,rfl⟩:∃ z,r=13+d0+z:=⟨r-(13+d0),by omega⟩
    have:=rA t.mask h (13+d0) z
    omega
   obtain⟨hi1,hi2⟩:=bx.mp hi
   have hp:t.place.getD i 0=(pAt t.mask h m).j:=by rw[Array.getD_eq_getD_getElem?,hi];rfl
   refine List.mem_flatMap.mpr ⟨i,bE.mpr ⟨br.mpr (by rw[<-W.len];exact hi1),bB e⟩,ao.mpr ⟨m-lpT t.mask h r,br.mpr (by omega),?_⟩⟩
   rw[hrq r _ _ ⟨by omega,by omega⟩ (by rw[hp,h4])]
   omega
 rw[ak,ck,List.length_flatMap]at h1
 have e1:(((List.range hs.length).filter λi=>decide (hs.getD i 0=h)).map λi=>((List.range 10).map λq=>lpT t.mask h (rq (t.place.getD i 0) q)+q).length)=((List.range hs.length).filter λi=>decide (hs.getD i 0=h)).map λ_=>10:=
  eV λi _=>by rw[aa,ck]
 rw[e1,List.map_const',List.sum_replicate_nat,GJ]at h1
 omega
end TS
namespace TL
open PySem TS
variable {a b:Addr}{Q:Bool->Shared->Prop}{es:Array (Int×Value)}
section
variable {prog:Program}{w:World}{K:Type} [DecidableEq K] {knd:KeyKind prog w K}{A:Around}{E:Value->Shared->Prop}{s:Shared}
theorem tE (n:Nat){v:Value}(h:carriedByValue v=true):ofAClassStatement n v=pure false:=by
 cases v with
 |ref a=>simp[carriedByValue]at h
 |_=>unfold ofAClassStatement;rfl
theorem tS {ks:List K}(hk:IsTupleKey knd s.heap ks a)(h:Q false s):wpAny (model prog w) A (ofAClassStatement 8 (.ref a)) Q E s:=by
 have hT:=hk.typeIs
 obtain⟨o,items,n,ho,_,hd,hi⟩:=hk
 unfold ofAClassStatement
 refine ae (wpAny_typeOf hT ?_)
 dsimp only
 rw[aQ (eB _)]
 refine ae (aj ?_)
 simp only[cc,aT,bG]
 refine ae (wpAny_seqItems ho hd ?_)
 dsimp only
 refine ae ?_
 rw[<-dU]
 refine wpAny_forIn_list _ (λrest r s'=>r.1=none/\s'=s/\∀ v∈rest,carriedByValue v=true) _ ?_ ?_ _ _ ⟨rfl,rfl,hi.byValue⟩
 ·rintro v rest r s' ⟨hr,rfl,mP⟩
  rw[tE _ (mP v aC)]
  refine ae (aj ?_)
  simp only[aT,bG]
  exact aj ⟨rfl,rfl,λu hu'=>mP u (aw _ hu')⟩
 ·rintro⟨r1,r2⟩ s' ⟨hr,rfl,_⟩
  simp only at hr
  subst hr
  exact aj h
theorem zD (n:Nat){v:Value}(h:v.scannable=true):∃ b,hashByValue n v=pure b:=⟨_,hashByValue_scannable n h⟩
theorem Cc {ks:List K}(hk:IsTupleKey knd s.heap ks a)(hsc:∀ k v,knd.is k v=true->v.scannable=true)(h:∀ b,Q b s):wpAny (model prog w) A (hashByValue 8 (.ref a)) Q E s:=by
 have hT:=hk.typeIs
 obtain⟨o,items,n,ho,_,hd,hi⟩:=hk
 have mP:∀ {x:List K}{vs:List Value},ItemsAre knd x vs->∀ v∈vs,v.scannable=true:=by
  intro x vs hx
  induction hx with
  |nil=>intro v hv;simp at hv
  |@cons k v' ks vs h1 _ ih=>
   intro v hv
   rcases aE.mp hv with rfl |hv
   ·exact hsc _ _ h1
   ·exact ih v hv
 unfold hashByValue
 refine ae (eg hT eM.lookup ?_)
 show wpAny _ _ (seqItems? (.ref a) >>= _) _ _ s
 refine ae (wpAny_seqItems ho hd ?_)
 refine ae ?_
 show wpAny _ _ (forIn items _ _) _ _ s
 rw[<-dU]
 refine wpAny_forIn_list _ (λrest r s'=>r.1=none/\s'=s/\∀ v∈rest,v.scannable=true) _ ?_ ?_ _ _ ⟨rfl,rfl,mP hi⟩
 ·rintro v rest r s' ⟨hr,rfl,mP⟩
  obtain⟨b,e⟩:=zD 7 (mP v aC)
  rw[e]
  refine ae (aj ?_)
  cases b with
  |true=>
   simp only[cc,aT,bG]
   exact aj ⟨rfl,rfl,λu hu'=>mP u (aw _ hu')⟩
  |false=>
   simp only[Bool.not_false,cV]
   exact aj (aj (h _))
 ·rintro⟨r1,r2⟩ s' ⟨hr,rfl,_⟩
  simp only at hr
  subst hr
  exact aj (h _)
theorem FI {ks:List K}(hk:IsTupleKey knd s.heap ks a){ys:List Value}(hy:∀ y∈ys,∃ b js,y = .ref b/\IsTupleKey knd s.heap js b)(h:Q false s):
  wpAny (model prog w) A (searchCouldBeSeen (.ref a) ys) Q E s:=by
 unfold searchCouldBeSeen
 refine ae ?_
 refine wpAny_forIn_list _ (λrest r s'=>r.1=none/\s'=s/\∀ v∈rest,v∈ys) _ ?_ ?_ _ _ ⟨rfl,rfl,λ_ h=>h⟩
 ·rintro v rest r s' ⟨hr,rfl,mP⟩
  obtain⟨b,js,rfl,hb⟩:=hy v (mP v aC)
  dsimp only
  by_cases c:(a==b||carriedByValue (Value.ref a)&&carriedByValue (Value.ref b))=true
  ·rw[aQ c]
   exact aj ⟨rfl,rfl,λu hu'=>mP u (aw _ hu')⟩
  ·rw[aG c]
   refine ae (wpAny_eqIsQuiet_tuple hk ?_)
   simp only[cc,aT,bG]
   refine ae (wpAny_eqIsQuiet_tuple hb ?_)
   simp only[cc,aT,bG]
   refine ae (tS hk ?_)
   simp only[aT,bG]
   refine ae (tS hb ?_)
   simp only[aT,bG]
   exact aj ⟨rfl,rfl,λu hu'=>mP u (aw _ hu')⟩
 ·rintro⟨r1,r2⟩ s' ⟨hr,rfl,_⟩
  simp only at hr
  subst hr
  exact aj h
theorem Hv {α:Type}{c:Bool}{m:Sem Bool}{T U:Sem α}{Q:α->Shared->Prop}(h:wpAny (model prog w) A m (λb s'=>b=false/\s'=s) E s)(hT:wpAny (model prog w) A T Q E s):
  wpAny (model prog w) A (if c=true then m >>= λb=>if b=true then U else T else T) Q E s:=by
 cases c with
 |false=>rw[aG aB];exact hT
 |true=>
  rw[aQ rfl]
  refine ae (bf h (λb s' hb=>?_) λ_ _ h'=>h')
  obtain⟨rfl,rfl⟩:=hb
  rw[aG aB]
  exact hT
noncomputable def yn (knd:KeyKind prog w K)(x:List K×Addr):Int×Value:=(tupleKeyHash knd x.1,.ref x.2)
noncomputable def pG (knd:KeyKind prog w K)(h:Heap)(a:Addr)(xs:List (List K×Addr)):Prop:=
 ∃ o es ep t,h.get? a=some o/\o.ExactSet/\o.data = .set es ep t/\es.toList=xs.map (yn knd)/\(xs.map (·.1)).Nodup/\WFT t (xs.map λx=>tupleKeyHash knd x.1)
theorem KR {xs:List (List K×Addr)}(he:es.toList=xs.map (yn knd))(i:Nat):es[i]? = (xs[i]?).map (yn knd):=by
 rw[<-bC,he,ah]
theorem vL {o:Obj}{ep:Nat}{t:SetTable}{xs:List (List K×Addr)}{k:List K}{sC:Bool}{Q:SetFound->Shared->Prop}(hu:A.units<cLine)
  (ho:s.heap.get? a=some o) (hd:o.data = .set es ep t) (he:es.toList=xs.map (yn knd)) (hnd:(xs.map (·.1)).Nodup) (W:WFT t (xs.map λx=>tupleKeyHash knd x.1))
  (hx:∀ x∈xs,IsTupleKey knd s.heap x.1 x.2) (hk:IsTupleKey knd s.heap k b) (m0:Nat) (hm0:(pAt t.mask (tupleKeyHash knd k) m0).j∉t.place.toList) (hm1:∀ m,m<m0->(pAt t.mask (tupleKeyHash knd k) m).j∈t.place.toList)
  (AQ:∀ (i:Nat) y,xs[i]? = some (k,y)->Q (.there (if sC then none else some i)) s) (kL:k∉xs.map (·.1)->Q (.free (pAt t.mask (tupleKeyHash knd k) m0).j false) s):
  ∀ (fuel n:Nat) (st:Option SetTable.Probe),(vis (GU t (xs.map λx=>tupleKeyHash knd x.1) (tupleKeyHash knd k)) n m0).length<fuel->n<=m0->st.getD (t.probeStart (tupleKeyHash knd k))=pAt t.mask (tupleKeyHash knd k) n->(∀ m,m<n->∀ (i:Nat) y,t.place[i]? = some (pAt t.mask (tupleKeyHash knd k) m).j->xs[i]? ≠some (k,y))->
   wpAny (model prog w) A (setSearchFrom a (.ref b) (tupleKeyHash knd k) sC fuel st) Q E s:=by
 intro fuel
 induction fuel with
 |zero=>intro n st h1 h2;omega
 |succ fuel ih=>
  intro n st h1 h2 hst Pk
  have hsz:es.size=xs.length:=by rw[<-aS,he,aa]
  have yi:t.fits es.size=true:=by have:=W.fits;rw[aa]at this;rw[hsz];exact this
  unfold setSearchFrom
  refine ae (eJ ho hd yi ?_)
  dsimp only
  rw[W.Pl]
  simp only[aT,bG]
  rw[hst]
  obtain⟨m,g1,g2,g3,g4⟩:=Ar W (ha:=λi=>(es[i]?.map (·.1)).getD 0) (h:=tupleKeyHash knd k) (λi hi=>by
   rw[aa]at hi
   show((es[i]?).map (·.1)).getD 0=_
   rw[KR he,ag hi,aF,ah,ag hi];rfl) n
  generalize hP:t.probe _ (tupleKeyHash knd k) (pAt t.mask (tupleKeyHash knd k) n)=P
  have hP':P=some (vi t (tupleKeyHash knd k) m):=by rw[<-hP];exact g4
  subst hP'
  dsimp only
  have hmm:m<=m0:=aJ λc=>g3 m0 h2 (by omega) (.inl hm0)
  unfold vi
  have hno:∀ q,q<m->∀ (i:Nat) y,t.place[i]? = some (pAt t.mask (tupleKeyHash knd k) q).j->xs[i]? ≠some (k,y):=λq hq i y hp hxi=>by
   by_cases c:q<n
   ·exact Pk q c i y hp hxi
   ·refine g3 q (by omega) hq (.inr ⟨i,hp,?_⟩)
    rw[aF,ah,hxi];rfl
  by_cases hin:(pAt t.mask (tupleKeyHash knd k) m).j∈t.place.toList
  ·obtain⟨i,hi⟩:=Array.mem_iff_getElem?.mp (Array.mem_toList_iff.mp hin)
   rw[nM W.rise hi]
   dsimp only
   have hil:i<xs.length:=by have:=(bx.mp hi).1;rw[W.len,aa]at this;exact this
   have hxi:xs[i]? = some (xs[i].1,xs[i].2):=ag hil
   have hei:es[i]? = some (tupleKeyHash knd xs[i].1,.ref xs[i].2):=by rw[KR he,hxi];rfl
   have hki:=hx xs[i] (fB hil)
   refine Hv (FI hk (λy hy=>?_) ⟨rfl,rfl⟩) ?_
   ·obtain⟨z,hz,rfl⟩:=ao.mp hy
    rw[Array.toList_filter]at hz
    have hz:=(bE.mp hz).1
    rw[he]at hz
    obtain⟨q,hq,rfl⟩:=ao.mp hz
    exact⟨q.2,q.1,rfl,hx q hq⟩
   rw[hei]
   dsimp only
   refine ae (dD (wpAny_eqBool_tuple hu hki hk ?_))
   refine ae (eJ ho hd yi ?_)
   dsimp only
   by_cases hkk:xs[i].1=k
   ·have EO:xs[i]? = some (k,xs[i].2):=by rw[<-hkk];exact hxi
    rw[bB hkk]
    have q:=AQ i _ EO
    cases sC with
    |true=>
     simp only[Bool.and_self,cV]
     exact aj q
    |false=>
     simp only[Bool.false_and,aT,bG]
     have hsm:t.sameMemory t.moves t.mask=some true:=by unfold SetTable.sameMemory;simp
     rw[hsm]
     simp only[cV]
     rw[nM W.rise hi]
     dsimp only
     rw[hei]
     dsimp only
     refine ae (wpAny_isSame_ref_self ?_)
     refine ae (aj ?_)
     simp only[cV]
     exact aj q
   ·rw[aW hkk]
    simp only[Bool.and_false,aT,bG]
    have hsm:t.sameMemory t.moves t.mask=some true:=by unfold SetTable.sameMemory;simp
    rw[hsm]
    simp only[cV]
    rw[nM W.rise hi]
    dsimp only
    rw[hei]
    dsimp only
    refine ae (wpAny_isSame_ref_self ?_)
    refine ae (aj ?_)
    simp only[cV]
    have hne:m≠m0:=λz=>hm0 (by rw[<-z];exact hin)
    have vs:=Dt g1 (show m<m0 by omega) (GN g2 hin)
    refine ih (m+1) (some _) (by omega) (by omega) rfl λq hq i' y hp EO=>?_
    by_cases c:q<m
    ·exact hno q c i' y hp EO
    ·have:q=m:=by omega
     subst this
     have e1:=below_at W.rise hp
     have e2:=below_at W.rise hi
     have:i'=i:=by omega
     subst this
     rw[hxi]at EO
     cases EO
     exact hkk rfl
  ·rw[uo W.dum hin]
   dsimp only
   have hme:m=m0:=aJ λc=>hin (hm1 m (by omega))
   subst hme
   refine aj (kL λph=>?_)
   obtain⟨x,hx1,hx2⟩:=ao.mp ph
   obtain⟨i,hi1⟩:=eA.mp hx1
   have hil:i<xs.length:=(af.mp hi1).1
   have hip:i<t.place.size:=by rw[W.len,aa];exact hil
   have hxk:xs[i].1=k:=by rw[<-hx2];congr 1;exact(af.mp hi1).2
   obtain⟨nn,r1,r2⟩:=W.reach i (by rw[aa];exact hil) _ (bD hip)
   have hh:(xs.map λx=>tupleKeyHash knd x.1)[i]'(by rw[aa];exact hil)=tupleKeyHash knd k:=by rw[bY,hxk]
   rw[hh]at r1 r2
   rcases Nat.lt_trichotomy nn m with c |c |c
   ·exact hno nn c i x.2 (by rw[r1];exact bD hip) (by rw[hi1,<-hx2])
   ·subst c
    exact hin (by rw[r1];simp)
   ·exact hin (r2 m c)
end
variable {order:List Nat}
section
variable {prog:Program}{w:World}{K:Type} [DecidableEq K] {knd:KeyKind prog w K}{A:Around}{E:Value->Shared->Prop}{s:Shared}
theorem Cd {t:SetTable}{hs:List Int}(W:WFT t hs)(h:Int):∃ m0,(pAt t.mask h m0).j∉t.place.toList/\∀ m,m<m0->(pAt t.mask h m).j∈t.place.toList:=by
 obtain⟨k,_,hk⟩:=W.pow
 obtain⟨j,hj,hf⟩:=@sa t.place.toList t.mask (by
  have:=W.room;have h1:=W.len
  rw[aS];omega)
 obtain⟨m,h1,h2,e⟩:=Bz hk h 0 hj
 obtain⟨e',h3,h4,h5⟩:=sA (P:=λn=>(pAt t.mask h n).j∉t.place.toList) m 0 (by rw[d9,e];exact hf)
 rw[d9]at h4
 exact⟨e',h4,λq hq=>aJ λc=>h5 q (aI _) (by omega) c⟩
noncomputable def Clk (knd:KeyKind prog w K)(xs:List (List K×Addr))(k:List K):Prop:=(xs.filter λx=>decide (tupleKeyHash knd x.1=tupleKeyHash knd k)).length<=9900
theorem Cb {o:Obj}{ep:Nat}{t:SetTable}{xs:List (List K×Addr)}{k:List K}{sC:Bool}{Q:SetFound->Shared->Prop}(hu:A.units<cLine)
  (ho:s.heap.get? a=some o) (hd:o.data = .set es ep t) (he:es.toList=xs.map (yn knd)) (hnd:(xs.map (·.1)).Nodup) (W:WFT t (xs.map λx=>tupleKeyHash knd x.1))
  (hx:∀ x∈xs,IsTupleKey knd s.heap x.1 x.2) (hk:IsTupleKey knd s.heap k b) (hcl:Clk knd xs k)
  (AQ:∀ (i:Nat) y,xs[i]? = some (k,y)->Q (.there (if sC then none else some i)) s)
  (kL:k∉xs.map (·.1)->∀ m0,(pAt t.mask (tupleKeyHash knd k) m0).j∉t.place.toList->(∀ m,m<m0->(pAt t.mask (tupleKeyHash knd k) m).j∈t.place.toList)->Q (.free (pAt t.mask (tupleKeyHash knd k) m0).j false) s):
  wpAny (model prog w) A (setSearch a (.ref b) (tupleKeyHash knd k) sC) Q E s:=by
 obtain⟨m0,g2,g3⟩:=Cd W (tupleKeyHash knd k)
 have g1:=FN W (tupleKeyHash knd k) g3
 rw[List.filter_map,aa]at g1
 have g4:((xs.filter ((λx=>decide (x=tupleKeyHash knd k)) ∘ λx=>tupleKeyHash knd x.1))).length<=9900:=hcl
 exact vL hu ho hd he hnd W hx hk m0 g2 g3 AQ (λh=>kL h m0 g2 g3) 100000 0 none (by omega) (aI _) rfl λm hm=>by omega
theorem A4 (b:Addr)(es:Array (Int×Value)):byScan (.ref b) es=false:=by simp[byScan,Value.scannable]
theorem pG.typeIs {xs:List (List K×Addr)}(hS:pG knd s.heap a xs):s.TypeIs (.ref a) "set" :=let ⟨o,_,_,_,ho,hc,_⟩:=hS;⟨o,ho,hc.1⟩
theorem DB {h:Heap}{o:Obj}{ep:Nat}{t:SetTable}(ho:h.get? a=some o)(hd:o.data = .set es ep t)(es':Array (Int×Value))(t':SetTable):
  (h.update a (Obj.putSet es' t')).get? a=some {o with data:=.set es' (ep+1) t'} :=by
 have:=Heap.get?_update_self (Obj.putSet es' t') ho (by rw[putSet_of es' t' hd];rfl)
 rw[putSet_of es' t' hd]at this;exact this
theorem vQ {α:Type}{xs:List α}(hp:order.Perm (List.range xs.length)):(order.filterMap λi=>xs[i]?).Perm xs:=by
 have:=hp.filterMap (λi=>xs[i]?)
 rw[List.filterMap_getElem?_range_length]at this
 exact this
theorem lV {α β:Type}(f:α->β){xs:List α} :(order.filterMap λi=>(xs.map f)[i]?)=(order.filterMap λi=>xs[i]?).map f:=by
 rw[List.map_filterMap]
 congr 1
 funext i
 rw[ah]
theorem Av {hs:List Int}(hp:order.Perm (List.range hs.length)):(order.map λi=>hs.getD i 0)=order.filterMap λi=>hs[i]? :=by
 have mP:∀ i∈order,i<hs.length:=λi hi=>br.mp (hp.mem_iff.mp hi)
 clear hp
 induction order with
 |nil=>rfl
 |cons x l ih=>
  have hx:=mP x aC
  rw[aZ,dN,ag hx,ih λi hi=>mP i (aw _ hi),aF,ag hx]
  rfl
theorem vf {α β:Type}(f:α->β)(xs:List α)(x:α)(p:Nat):(xs.map f).take p++f x::(xs.map f).drop p=(xs.take p++x::xs.drop p).map f:=by
 rw[av,aZ,eG,eI]
theorem sN {o:Obj}{ep:Nat}{t:SetTable}{xs:List (List K×Addr)}{k:List K}
  (ho:s.heap.get? a=some o) (hex:o.ExactSet) (hd:o.data = .set es ep t) (he:es.toList=xs.map (yn knd)) (hnd:(xs.map (·.1)).Nodup) (W:WFT t (xs.map λx=>tupleKeyHash knd x.1)) (vh:xs.length<4096001)
  (hn:k∉xs.map (·.1)) {m0:Nat} (g1:(pAt t.mask (tupleKeyHash knd k) m0).j∉t.place.toList) (g2:∀ m,m<m0->(pAt t.mask (tupleKeyHash knd k) m).j∈t.place.toList)
  (sx:∀ h' xs',Heap.SameBut a s.heap h'->pG knd h' a xs'->xs'.Perm (xs ++ [(k,b)])->Q true {s with heap:=h'}) {t2:SetTable}{c:Bool} (ht:t2 = {(t.put (pAt t.mask (tupleKeyHash knd k) m0).j).1 with plain:=c}) {n:Nat} (hnn:n=es.size+1):
  wpAny (model prog w) A (do
   storeSet a (SetTable.insertAt es (t.put (pAt t.mask (tupleKeyHash knd k) m0).j).2 (tupleKeyHash knd k,Value.ref b)) t2
   if(!false&&t2.tooFull)=true then do
    setRelay a (SetTable.grown n)
    pure true
   else pure true) Q E s:=by
 have hsz:es.size=xs.length:=by rw[<-aS,he,aa]
 generalize hp:(t.put (pAt t.mask (tupleKeyHash knd k) m0).j).2=p
 have hp':p=SetTable.below t.place (pAt t.mask (tupleKeyHash knd k) m0).j:=by rw[<-hp];rfl
 have Sr:p<=xs.length:=by
  have h1:=(oG W.rise (pAt t.mask (tupleKeyHash knd k) m0).j).1
  have h2:=W.len
  rw[aa]at h2
  omega
 generalize hes:SetTable.insertAt es p (tupleKeyHash knd k,Value.ref b)=es1
 have he1:es1.toList=(xs.take p++(k,b)::xs.drop p).map (yn knd):=by
  rw[<-hes,d8,he]
  exact vf (yn knd) xs (k,b) p
 have w5:(xs.take p++(k,b)::xs.drop p).Perm (xs ++ [(k,b)]):=by
  refine List.perm_middle.trans ?_
  rw[cG]
  exact(List.perm_append_singleton (k,b) xs).symm
 have hl1:(xs.take p++(k,b)::xs.drop p).length=xs.length+1:=by rw[w5.length_eq];simp
 have hs1:es1.size=xs.length+1:=by rw[<-aS,he1,aa,hl1]
 have Kv:((xs.take p++(k,b)::xs.drop p).map (·.1)).Nodup:=by
  refine(w5.map (·.1)).nodup_iff.mpr ?_
  rw[av]
  refine bQ.mpr ⟨hnd,by simp,λx hx y hy=>?_⟩
  simp at hy
  subst hy
  exact λz=>hn (z ▸ hx)
 have hh1:(xs.take p++(k,b)::xs.drop p).map (λx=>tupleKeyHash knd x.1)=(xs.map λx=>tupleKeyHash knd x.1).take p++tupleKeyHash knd k::(xs.map λx=>tupleKeyHash knd x.1).drop p:=
  (vf (λx=>tupleKeyHash knd x.1) xs (k,b) p).symm
 have Hd:t2.mask=t.mask:=by rw[ht];rfl
 have Ks:t2.place.size=xs.length+1:=by
  have h2:=W.len
  rw[aa]at h2
  have:t2.place=SetTable.insertAt t.place p (pAt t.mask (tupleKeyHash knd k) m0).j:=by rw[ht,hp'];rfl
  rw[this,<-aS,d8,ak,aO,aM,bA,aS]
  omega
 have KI:t2.dummies = #[]:=by
  rw[ht]
  show(if SetTable.has t.dummies _ then SetTable.eraseAt t.dummies _ else t.dummies) = #[]
  rw[W.dum]
  simp[SetTable.has]
 have He:t2.fill=xs.length+1:=by unfold SetTable.fill;rw[Ks,KI];rfl
 have II:=W.room
 rw[aa]at II
 have h7:7<=t.mask:=by
  obtain⟨q,q1,q2⟩:=W.pow
  have:2 ^ 3<=2 ^ q:=dA (by decide) q1
  omega
 have hz1:es1.size<=sizeLine:=by rw[hs1,cy];omega
 refine ae (wpAny_storeSet_of ho hd ?_ hz1)
 have ho1:=DB ho hd es1 t2
 have sb1:Heap.SameBut a s.heap (s.heap.update a (Obj.putSet es1 t2)):=dY s.heap a (Obj.putSet es1 t2)
 by_cases full:t2.tooFull=true
 ·rw[full]
  simp only[Bool.not_false,Bool.and_self,cV]
  unfold setRelay
  have KH:t2.fits es1.size=true:=by
   simp only[SetTable.fits,He,Ks,hs1,eB,Bool.true_and,dq,Hd]
   omega
  refine ae (ae (eJ (s:={s with heap:=s.heap.update a (Obj.putSet es1 t2)}) ho1 rfl KH ?_))
  dsimp only
  have hgr:2*(xs.length+1)<=SetTable.grown n/\SetTable.grown n<=8192002:=by
   unfold SetTable.grown
   split<;>omega
  obtain⟨q,q1,q2,q3⟩:=xE (n:=SetTable.grown n) (by omega)
  have hle:SetTable.sizeAbove (SetTable.grown n)<=2 ^ 23:=qQ 64 8 _ 23 ⟨3,by decide,rfl⟩ (by omega)
  rw[aG (by rw[cy];omega)]
  generalize Pj:SetTable.sizeAbove (SetTable.grown n)=big at q2 q3 hle
  have hhs:(es1.map (·.1)).toList=(xs.take p++(k,b)::xs.drop p).map (λx=>tupleKeyHash knd x.1):=by
   rw[Array.toList_map,he1,bo];rfl
  have KG:(es1.map (·.1)).size=xs.length+1:=by rw[Array.size_map];exact hs1
  have hb8:2 ^ 23=8388608:=by decide
  obtain⟨t3,order,e3,_,_,pe,W3⟩:=Gn (mask:=big-1) (p:=q) (by omega) q1 (hs:=es1.map (·.1)) (by rw[KG];omega) (by omega) t2.finger (t2.movedTo (big-1)) t2.led t2.plain
  have e3':t2.relaid (es1.map (·.1)) (SetTable.grown n)=some (t3,order):=by
   unfold SetTable.relaid
   rw[Pj];exact e3
  rw[e3']
  refine ae ?_
  have pe':order.toList.Perm (List.range (xs.take p++(k,b)::xs.drop p).length):=by rw[hl1,<-KG];exact pe
  have he2:(order.filterMap (es1[·]?)).toList=((order.toList.filterMap λi=>(xs.take p++(k,b)::xs.drop p)[i]?)).map (yn knd):=by
   rw[Array.toList_filterMap,<-lV,<-he1]
   congr 1
   funext i
   rw[bC]
  have hpm:=vQ pe'
  have hs2:(order.filterMap (es1[·]?)).size=es1.size:=by
   rw[<-aS,he2,aa,hpm.length_eq,hl1,hs1]
  have hne:((order.filterMap (es1[·]?)).size !=es1.size)=false:=by rw[hs2];simp
  show wpAny _ _ (if((order.filterMap (es1[·]?)).size !=es1.size)=true then _ else _) _ _ _
  rw[hne,aG aB]
  refine aj ?_
  dsimp only
  refine wpAny_storeSet_of (s:={s with heap:=s.heap.update a (Obj.putSet es1 t2)}) ho1 rfl ?_ (by rw[hs2];exact hz1)
  refine aj (sx _ _ (sb1.trans (dY _ a _)) ⟨_,_,_,t3,DB ho1 rfl _ _,hex,rfl,he2,?_,?_⟩ (hpm.trans w5))
  ·exact((hpm.map (·.1)).nodup_iff).mpr Kv
  ·have:(order.toList.map λi=>(es1.map (·.1)).getD i 0)=(order.toList.filterMap λi=>(xs.take p++(k,b)::xs.drop p)[i]?).map (λx=>tupleKeyHash knd x.1):=by
    rw[<-lV,<-hhs,<-Av (by rw[hhs,aa];exact pe')]
    congr 1
    funext i
    simp[Array.getD_eq_getD_getElem?,aF]
   rw[<-this]
   exact W3
 ·have BR:t2.tooFull=false:=by cases h:t2.tooFull with |false=>rfl |true=>exact(full h).elim
  rw[BR]
  simp only[Bool.and_false,aT,bG]
  refine aj (sx _ _ sb1 ⟨_,es1,ep+1,t2,ho1,hex,rfl,he1,Kv,?_⟩ w5)
  rw[hh1,ht,<-hp]
  refine W.put g1 g2 c ?_
  rw[aa]
  unfold SetTable.tooFull at BR
  rw[He,Hd]at BR
  simp at BR
  omega
theorem vM {xs:List (List K×Addr)}{k:List K}(hu:A.units<cLine)(hsc:∀ k v,knd.is k v=true->v.scannable=true)(hS:pG knd s.heap a xs)
  (hx:∀ x∈xs,IsTupleKey knd s.heap x.1 x.2) (hk:IsTupleKey knd s.heap k b) (vh:xs.length<4096001) (hcl:Clk knd xs k)
  (hold:k∈xs.map (·.1)->Q false s) (sx:k∉xs.map (·.1)->∀ h' xs',Heap.SameBut a s.heap h'->pG knd h' a xs'->xs'.Perm (xs ++ [(k,b)])->Q true {s with heap:=h'}):
  wpAny (model prog w) A (setAddHashed a (.ref b) (tupleKeyHash knd k)) Q E s:=by
 obtain⟨o,es,ep,t,ho,hex,hd,he,hnd,W⟩:=hS
 have hsz:es.size=xs.length:=by rw[<-aS,he,aa]
 have yi:t.fits es.size=true:=by have:=W.fits;rw[aa]at this;rw[hsz];exact this
 unfold setAddHashed setAddHashedIn
 refine dD (ae (eJ ho hd yi ?_))
 dsimp only
 rw[A4]
 simp only[aT,bG]
 refine ae (Cb hu ho hd he hnd W hx hk hcl (λi y hi=>?_) λhn m0 g1 g2=>?_)
 ·exact aj (hold (ao.mpr ⟨_,au hi,rfl⟩))
 ·dsimp only
  refine ae (eJ ho hd yi ?_)
  dsimp only
  have tl:∀ (bv:Bool),wpAny (model prog w) A (do
   storeSet a (SetTable.insertAt es (t.put (pAt t.mask (tupleKeyHash knd k) m0).j).2 (tupleKeyHash knd k,Value.ref b)) (if bv=true then(t.put (pAt t.mask (tupleKeyHash knd k) m0).j).1 else {(t.put (pAt t.mask (tupleKeyHash knd k) m0).j).1 with plain:=false})
   if(!false&&(if bv=true then(t.put (pAt t.mask (tupleKeyHash knd k) m0).j).1 else {(t.put (pAt t.mask (tupleKeyHash knd k) m0).j).1 with plain:=false}).tooFull)=true then do
    setRelay a (SetTable.grown (es.size+1))
    pure true
   else pure true) Q E s:=λbv=>by
   cases bv with
   |true=>exact sN ho hex hd he hnd W vh hn g1 g2 (sx hn) (c:=(t.put (pAt t.mask (tupleKeyHash knd k) m0).j).1.plain) (by rw[aQ rfl]) rfl
   |false=>exact sN ho hex hd he hnd W vh hn g1 g2 (sx hn) (c:=false) (by rw[aG aB]) rfl
  split
  ·exact ae (Cc hk hsc tl)
  ·exact ae (aj (tl true))
theorem FJ {xs:List (List K×Addr)}{k:List K}(hu:A.units<cLine)(hsc:∀ k v,knd.is k v=true->v.scannable=true)(hS:pG knd s.heap a xs)
  (hx:∀ x∈xs,IsTupleKey knd s.heap x.1 x.2) (hk:IsTupleKey knd s.heap k b) (vh:xs.length<4096001) (hcl:Clk knd xs k)
  (hold:k∈xs.map (·.1)->Q false {s with toks:=s.toks+(k.length+1)}) (sx:k∉xs.map (·.1)->∀ h' xs',Heap.SameBut a s.heap h'->pG knd h' a xs'->xs'.Perm (xs ++ [(k,b)])->Q true {s with heap:=h',toks:=s.toks+(k.length+1)}):
  wpAny (model prog w) A (setAdd a (.ref b)) Q E s:=by
 unfold setAdd
 refine dD ?_
 refine ae (wpAny_pyHash_tuple hu hk ?_)
 exact vM (s:={s with toks:=s.toks+(k.length+1)}) hu hsc hS hx hk vh hcl hold sx
theorem vX {xs:List (List K×Addr)}{k:List K}{Q:Value->Shared->Prop}(hu:A.units+1<cLine)(hsc:∀ k v,knd.is k v=true->v.scannable=true)(hS:pG knd s.heap a xs)
  (hx:∀ x∈xs,IsTupleKey knd s.heap x.1 x.2) (hk:IsTupleKey knd s.heap k b) (vh:xs.length<4096001) (hcl:Clk knd xs k)
  (hold:k∈xs.map (·.1)->Q .none {s with toks:=s.toks+(k.length+1)}) (sx:k∉xs.map (·.1)->∀ h' xs',Heap.SameBut a s.heap h'->pG knd h' a xs'->xs'.Perm (xs ++ [(k,b)])->Q .none {s with heap:=h',toks:=s.toks+(k.length+1)}):
  wpAny (model prog w) A (call (.builtin "set.add") [.ref a,.ref b]) Q E s:=by
 refine bR F.slot_set_add hS.typeIs F.entry_set_add ?_ (F.args_set_add_2 _ _)
 unfold Builtin.«set.add» Builtin.Frozenset.oneOther
 simp only[List.isEmpty_nil,bind_assoc]
 unfold Builtin.Frozenset.addrOf
 refine ae (aj ?_)
 try dsimp only
 refine ae (aj ?_)
 try dsimp only
 refine ae (FJ (eu (knd:=knd) hu) hsc hS hx hk vh hcl (λz=>?_) λz h' xs' q1 q2 q3=>?_)
 ·show wpAny _ _ (ret Value.none) _ _ _
  exact aj ⟨_,rfl,hold z⟩
 ·show wpAny _ _ (ret Value.none) _ _ _
  exact aj ⟨_,rfl,sx z h' xs' q1 q2 q3⟩
end
open PySem.Spec PyProof.Rows L2
noncomputable def qi (P:Program)(w:World)(a:Addr)(xs:List (List Key×Addr)):HO:=.ext λh=>pG (gu P w) h a xs
noncomputable abbrev keysOf (xs:List (List Key×Addr)):List (List Key):=xs.map λx=>x.1
noncomputable def pF (K:PySem.W.Frag)(H:Hp)(xs:List (List Key×Addr)):Prop:=∀ x∈xs,SqT K H x.2 (x.1.map kV)
theorem EA {P:Program}{w:World} :∀ (k:Key) (v:Value),(gu P w).is k v=true->v.scannable=true:=λk v h=>by
 rcases iO (k:=k) (v:=v) h with⟨i,t,_,rfl⟩|⟨x,t,_,rfl⟩<;>rfl
theorem pG.qh {P:Program}{w:World}{h1 h2:Heap}{xs:List (List Key×Addr)}(p:pG (gu P w) h1 a xs)(k:∀ o,h1.get? a=some o->h2.get? a=some o):pG (gu P w) h2 a xs:=by
 obtain⟨o,es,ep,t,ho,r⟩:=p
 exact⟨o,es,ep,t,k _ ho,r⟩
theorem pG.obj {P:Program}{w:World}{h:Heap}{H:Hp}{xs:List (List Key×Addr)}(p:pG (gu P w) h a xs):iR P w H h a (qi P w a xs):=by
 obtain⟨o,es,ep,t,ho,r⟩:=id p
 exact⟨p,⟨o,ho⟩,λh1 h2 q k=>q.qh k⟩
section
variable {X:Cx}{pins:List (Addr×Obj)}{σ:St}{H:Hp}{s:Shared}
theorem Inv.JJ {l:Addr}{xs:List (List Key×Addr)}(I:Inv X pins σ H s)(h:H l=some (qi X.prog X.w l xs)):pG (gu X.prog X.w) s.heap l xs:=(I.hok l _ h).1
theorem Inv.Kf {k:List Key}(I:Inv X pins σ H s)(h:SqT X.K H b (k.map kV)):IsTupleKey (gu X.prog X.w) s.heap k b:=by
 obtain⟨its,r,⟨o,h1,h2,n,h3⟩,z⟩:=I.tuple h
 exact⟨o,its.toArray,n,h1,h2,h3,by simpa using su r⟩
theorem Inv.Ke {xs:List (List Key×Addr)}(I:Inv X pins σ H s)(h:pF X.K H xs):∀ x∈xs,IsTupleKey (gu X.prog X.w) s.heap x.1 x.2:=λx hx=>Inv.Kf I (h x hx)
noncomputable def HN (P:Program)(w:World)(K:PySem.W.Frag):V->List V->Hp->VK->Prop:=λx vs H Q=>∃ (l:Addr) (xs:List (List Key×Addr)) (k:List Key) (b:Addr),x = .ref l/\vs = [.ref b]/\H l=some (qi P w l xs)/\pF K H xs/\SqT K H b (k.map kV)/\(xs.length<4096001/\Clk (gu P w) xs k)/\
 (k∈keysOf xs->Q .non H)/\(k∉keysOf xs->∀ xs',xs'.Perm (xs ++ [(k,b)])->Q .non (upd H l (qi P w l xs')))
theorem Ew (hu:X.A.units+1<cLine):MtR X "set.add" (HN X.prog X.w X.K):=by
 intro pins s σ H x vs v us Q I rx rv h
 obtain⟨l,xs,k,b,rfl,rfl,hH,ht,hb,hz,q1,q2⟩:=h
 cases rx
 obtain⟨u,rfl,rb⟩:=rv.one
 cases rb
 refine vX hu EA (Inv.JJ I hH) (Inv.Ke I ht) (Inv.Kf I hb) hz.1 hz.2 (λz=>⟨.non,H,I.tok _,rfl,q1 z⟩) λz h' xs' sb hS p=>?_
 refine⟨.non,_,I.write (t':=s.toks+(k.length+1)) (o:=qi X.prog X.w l xs') (x:=l) (e:=l) (by rw[hH];exact trivial) (.inl rfl) (λb u hb e=>sb.extBut b u hb e) ?_ hS.obj,rfl,q2 z xs' p⟩
 obtain⟨o,_,_,_,e,_⟩:=hS;exact⟨o,e⟩
theorem Di:kG X (.builtin "len") (λxs H Q=>∃ p ys,xs = [.ref p]/\H p=some (qi X.prog X.w p ys)/\Q (.int ys.length) H):=by
 intro pins s σ H xs us Q I r h
 obtain⟨p,ys,rfl,hH,q⟩:=h
 obtain⟨u,rfl,rx⟩:=vals1 r
 cases rx
 obtain⟨o,es,ep,t,ho,hex,hd,he,hnd,W⟩:=Inv.JJ I hH
 have hsz:es.size=ys.length:=by rw[<-aS,he,aa]
 have yi:t.fits es.size=true:=by have:=W.fits;rw[aa]at this;rw[hsz];exact this
 have h1:=W.room
 have h2:=W.small
 rw[aa]at h1
 exact call_len_set ho hex hd yi (by omega) ⟨.int ys.length,H,I.tok _,⟨_,by rw[hsz]⟩,q⟩
end
theorem ud {α:Type} [DecidableEq α]:∀ {l m:List α},l.Nodup->(∀ x∈l,x∈m)->l.length<=m.length
 |[],m,_,_=>aI _
 |x::l,m,hn,hs=>by
  rw[bq]at hn
  have hx:=hs x aC
  have:=@ud α _ l (m.erase x) hn.2 λy hy=>by
   refine(cL ?_).mpr (hs y (aw _ hy))
   rintro rfl
   exact hn.1 hy
  have h2:=cP hx
  have h3:0<m.length:=List.length_pos_of_mem hx
  rw[aO]
  omega
theorem xZ {α:Type} [DecidableEq α]:∀ {l m:List α},l.Nodup->(∀ x∈l,x∈m)->m.length<=l.length->m.Nodup:=by
 intro l
 induction l with
 |nil=>
  intro m _ _ hl
  have:m = []:=List.eq_nil_of_length_eq_zero (by simpa using hl)
  subst this;exact cz
 |cons x l ih=>
  intro m hn hs hl
  rw[bq]at hn
  have hx:=hs x aC
  have h2:=cP hx
  have h3:0<m.length:=List.length_pos_of_mem hx
  have Gu:∀ y∈l,y∈m.erase x:=λy hy=>by
   refine(cL ?_).mpr (hs y (aw _ hy))
   rintro rfl
   exact hn.1 hy
  have he:=ih (m:=m.erase x) hn.2 Gu (by rw[aO]at hl;omega)
  refine(List.perm_cons_erase hx).nodup_iff.mpr (bq.mpr ⟨λz=>?_,he⟩)
  have:=ud (l:=x::l) (m:=m.erase x) (bq.mpr hn) λy hy=>(aE.mp hy).elim (λe=>e ▸ z) (Gu y)
  rw[aO]at this hl
  omega
theorem pF.same {K:PySem.W.Frag}{H H':Hp}{xs:List (List Key×Addr)}(h:pF K H xs)(s:fL H H'):pF K H' xs:=λx hx=>gx s (h x hx)
open HT
end TL
namespace TL
open PySem PySem.Spec PyProof.Rows L2
theorem wW {H H':Hp}(s:fL H H'){q:Addr}(h:H' q=none):H q=none:=by
 cases q0:H q with
 |none=>rfl
 |some o=>rw[s _ _ q0]at h;cases h
open PySem.W
noncomputable def ev {α:Type} :List α->List α
 |[]=>[]
 |[x]=>[x]
 |x::_::r=>x::ev r
end TL
namespace TL
open PySem PySem.Spec PyProof.Rows L2 TS
section
variable {prog:Program}{w:World}{A:Around}{R:Result->Shared->Prop}{s:Shared}
theorem rK {kx vx target iter:Expr}{ifs:List Expr}{scope:Scope}{pos:Pos}{it:Value}{D:Addr}{env:Env}(I:Nat->Shared->Prop)
  (turn:∀ n s,I n s->wpAny (model prog w) A (pyNext it) (λr s₁=>match r with
   |none=>R (.ok .next) s₁
   |some v=>wpAny (model prog w) A (letOwnedTupleGo target it v) (λ_ s₀=>wpAny (model prog w) A (assign target env v) (λ_ s₂=>
     wpAny (model prog w) A (tJ ifs env) (λok s₃=>
      if ok=true then wpAny (model prog w) A (eval kx env) (λkv s₄=>wpAny (model prog w) A (eval vx env) (λvv s₅=>
       wpAny (model prog w) A (dictSet D kv vv) (λ_ s₆=>∃ m,m<n/\I m s₆) (λ_ _=>False) s₅) (λ_ _=>False) s₄) (λ_ _=>False) s₃
      else ∃ m,m<n/\I m s₃) (λ_ _=>False) s₂) (λ_ _=>False) s₀) (λ_ _=>False) s₁) (λ_ _=>False) s)
  (n:Nat) (h:I n s):
  codeAny (model prog w) A (.compLoop (.DictComp kx vx [⟨target,iter,ifs,0⟩] scope pos) 0 it (.ref D) env) R s:=by
 refine codeAny_loop rfl I (λn s hI=>?_) n h
 show wpAny _ A ((compTurn (.DictComp kx vx [⟨target,iter,ifs,0⟩] scope pos) 0 it (.ref D) env).onRaise (λx=>do noteFrame x env;theTreesLotGoes x)) _ _ s
 refine wpAny_noted ?_
 rw[compTurn_dict]
 refine ae (cU (ae (bf (turn n s hI) (λr s₁ h₁=>?_) λ_ _ h'=>h'.elim)))
 cases r with
 |none=>exact aj h₁
 |some v=>
  refine ae (bf h₁ (λ_ s₀ h₀=>?_) λ_ _ h'=>h'.elim)
  refine ae (bf h₀ (λ_ s₂ h₂=>ae (bf h₂ (λok s₃ h₃=>?_) λ_ _ h'=>h'.elim)) λ_ _ h'=>h'.elim)
  cases ok with
  |false=>exact aj ⟨rfl,h₃⟩
  |true=>
   exact ae (ae (bf h₃ (λkv s₄ h₄=>ae (dD (bf h₄ (λvv s₅ h₅=>ae (cU (dD (bf h₅ (λ_ s₆ h₆=>aj ⟨rfl,h₆⟩) λ_ _ h'=>h'.elim)))) λ_ _ h'=>h'.elim))) λ_ _ h'=>h'.elim))
end
section
variable {X:Cx}{pins:List (Addr×Obj)}{σ:St}{H1:Hp}{s2:Shared}{scope:Scope}{N:List Str}{own:Nat}{cap:List (Option Nat)}{cl:List (Str×Addr)}{fp:List Addr}
 {tg iter elt vlt:Expr}{ifs:List Expr}{pos:Pos}{g:TG}{tt:TT}{te tv:TE}{wi:TI}
noncomputable def K8 (P:Program)(w:World)(K:PySem.W.Frag)(J:It)(g:TG)(tt:TT)(te:TE)(cap:List (Option Nat))(σ:St)(Q:VK)(l:Addr)(H1:Hp):Prop:=
 ∃ W:Nat->Nat->Hp->Prop,(∃ m,W 0 m (upd H1 l (qi P w l [])))/\∀ i m H,W i m H->
  (J.stop i H/\Q (.ref l) H)\/(J.go i H/\∃ N:Hp->Prop,(∀ H',N H'->∃ m',m'<m/\W (i+1) m' H')/\
   ∀ x H',J.yld i H x H'->g x (iF cap σ) H' λσ2 H2=>tt σ2 H2 λb H3=>
    if b=true then te σ2 H3 λy H4=>∃ (xs:List (List Key×Addr)) (k:List Key) (b:Addr),y = .ref b/\H4 l=some (qi P w l xs)/\pF K H4 xs/\SqT K H4 b (k.map kV)/\(xs.length<4096001/\Clk (gu P w) xs k)/\(k∈keysOf xs->N H4)/\(k∉keysOf xs->∀ xs',xs'.Perm (xs ++ [(k,b)])->N (upd H4 l (qi P w l xs')))
    else N H3)
noncomputable def Le (P:Program)(w:World)(K:PySem.W.Frag)(wi:TI)(cap:List (Option Nat))(g:TG)(tt:TT)(te:TE):TE:=λσ H Q=>wi σ H λJ H1=>∀ l,H1 l=none->
 K8 P w K J g tt te cap σ Q l H1
theorem A1 {it:Addr}{tn:Nat->Heap->Prop}{J:It}{Q:VK}{RR:Value->Addr->Result->Shared->Prop}{E:Value->Shared->Prop}(hu:X.A.units+1<cLine)(I:Inv X pins σ H1 s2)(T:Turn X.prog X.w X.K tg J fp it tn)(t0:tn 0 s2.heap)
  (f:∀ b∈fp,lS X pins H1 b) (hc:X.calm=true) (C:gF X.env.scope X.N scope N own cap) (ho:qj own g)
  (jX:∀ x c,cl.lookup x=some c->X.env.cells.lookup x=some c) (mh:∀ y∈scope.names,y.2 = .free->∃ c,cl.lookup y.1=some c)
  (hg:∀ s3 H3,PG (fU X scope cl N fp s3 H3) tg g) (ht:∀ s3 H3,sE (fU X scope cl N fp s3 H3) ifs tt) (he:∀ s3 H3,PE (fU X scope cl N fp s3 H3) elt te)
  (hw:∀ l,H1 l=none->K8 X.prog X.w X.K J g tt te cap σ Q l H1)
  (fin:∀ l C s' H' m',Inv X pins σ H' s'->s'.heap.Ns C m'->H' C=none->Apart X pins C->Q (.ref l) H'->RR (.ref l) C (.ok .next) s'):
  wpAny (model X.prog X.w) X.A (newSet (.type "set")) (λacc s₃=>wpAny (model X.prog X.w) X.A (newFunctionEnv scope X.env.globals cl [] X.env.qual none .none (some X.env)) (λrL s₄=>
   codeAny (model X.prog X.w) X.A (.compStart (.SetComp elt [⟨tg,iter,ifs,0⟩] scope pos) 0 (.ref it) acc {rL with scope:=relabel scope X.env}) (RR acc rL.locals) s₄) E s₃) E s2:=by
 refine wpAny_newSet_of (knd:=intKind X.prog X.w) λled Kr=>?_
 refine dO C.sk (by intro y hy;simp at hy) (λh₁ jk jj=>?_) C.kind
 dsimp only at jk jj ⊢
 have hS:pG (gu X.prog X.w) (s2.heap.push {cls:=.type "set",dict:=none,data:=.set #[] 0 (.fresh 0 0 led)}) s2.heap.objs.size []:=
  ⟨_,#[],0,_,aR _ rfl,⟨rfl,rfl,rfl⟩,rfl,rfl,cz,WFT.fresh _ _ _⟩
 obtain⟨W,⟨m0,w0⟩,turn⟩:=hw s2.heap.objs.size I.fresh
 have I3:Inv X pins σ (upd H1 s2.heap.objs.size (qi X.prog X.w s2.heap.objs.size [])) {s2 with heap:=s2.heap.push {cls:=.type "set",dict:=none,data:=.set #[] 0 (.fresh 0 0 led)}} :=
  I.laid (t':=s2.toks) (λb u e=>ax _ e) (ar _) hS.obj
 generalize hs3:({s2 with heap:=s2.heap.push {cls:=.type "set",dict:=none,data:=.set #[] 0 (.fresh 0 0 led)}} :Shared)=s3 at I3
 have hh3:s3.heap=s2.heap.push {cls:=.type "set",dict:=none,data:=.set #[] 0 (.fresh 0 0 led)} :=by rw[<-hs3]
 rw[<-hh3]at jk jj ⊢
 have e4:({s2 with heap:=h₁,toks:=s2.toks+([]:List (Str×Value)).length} :Shared) = {s3 with heap:=h₁,toks:=s2.toks} :=by rw[<-hs3];rfl
 rw[e4]
 have k4:∀ b u,s3.heap.get? b=some u->h₁.get? b=some u:=λb u e=>jj.extBut b u (aL (aA e)) (ax _ e)
 have k3:∀ b u,s2.heap.get? b=some u->s3.heap.get? b=some u:=λb u e=>by rw[hh3];exact ax _ e
 have hb2:∀ b∈fp,b<s2.heap.objs.size:=λb hb=>by obtain⟨o,e,_⟩:=T.obj _ _ t0 b hb;exact aA e
 have f3:∀ b∈fp,lS X pins (upd H1 s2.heap.objs.size (qi X.prog X.w s2.heap.objs.size [])) b:=λb hb=>by
  obtain⟨f0,fr⟩:=f b hb
  exact⟨by rw[fK (aL (hb2 b hb))];exact f0,fr⟩
 have hb3:∀ b∈fp,b<s3.heap.objs.size:=λb hb=>by obtain⟨o,e,_⟩:=T.obj _ _ t0 b hb;exact aA (k3 b o e)
 have I4:=pg (tk:=s2.toks) I3 C jX mh (λb hb=>⟨f3 b hb,hb3 b hb⟩) jk k4
 generalize hH3:upd H1 s2.heap.objs.size (qi X.prog X.w s2.heap.objs.size [])=H3 at *
 have st4:tn 0 h₁:=T.keep _ _ _ t0 λb hb o e=>k4 b o (k3 b o e)
 have fpX:∀ {H':Hp},(∀ b∈fp,H' b=none)->∀ b∈fp,lS (fU X scope cl N fp s3 H3) [] H' b:=λ{H'} hn b hb=>by
  obtain⟨f0,f1,f2,f3',f4,f5⟩:=f3 b hb
  refine⟨hn b hb,aL (hb3 b hb),λhz=>?_,.inl hb,λx c e=>f4 x c (jX x c e),λp hp=>absurd (show p∈([]:List (Addr×Obj)) from hp) (by simp)⟩
  rcases aE.mp (I3.nv b hz)with z |z
  ·exact f1 z
  ·exact f2 z
 have loop:codeAny (model X.prog X.w) X.A (.compLoop (.SetComp elt [⟨tg,iter,ifs,0⟩] scope pos) 0 (.ref it) (.ref s2.heap.objs.size) (compEnvC scope cl s3.heap.objs.size X.env)) (RR (.ref s2.heap.objs.size) s3.heap.objs.size) {s3 with heap:=h₁,toks:=s2.toks} :=by
  refine rJ (λn s'=>∃ i H',Inv (fU X scope cl N fp s3 H3) [] (iF cap σ) H' s'/\tn i s'.heap/\(∀ b∈fp,H' b=none)/\W i n H') ?_ m0 ⟨0,H3,I4,st4,λb hb=>(f3 b hb).1,w0⟩
  rintro n s' ⟨i,H',I',st,fr,w⟩
  rcases turn i n H' w with⟨stop,q⟩|⟨go,NN,hNN,step⟩
  ·refine thn (T.done (fU X scope cl N fp s3 H3) rfl rfl rfl hc i [] s' _ H' (λ_ _=>False) I' (fpX fr) st stop) λr s5 ⟨hr,I5⟩=>?_
   subst hr
   obtain⟨m5,hn5,_⟩:=id I5.loc
   exact fin _ _ s5 H' m5 (comp_back I3 f3 I5) hn5 I5.free (TL.Inv.apart I3) q
  ·refine thn (T.item (fU X scope cl N fp s3 H3) rfl rfl rfl hc i [] s' _ H' (λ_ _=>False) I' (fpX fr) st go) λr s5 ⟨u,hr,h5⟩=>?_
   subst hr
   refine thn h5 λ_ s6 ⟨x,H6,I6,r6,y6,st6,fr6⟩=>?_
   have I6':=I6.pinned (fpX fr6) (T.obj _ _ st6)
   refine thn (hg s3 H3 _ s6 _ H6 x u _ I6' r6 (ho.own _ _ _ _ (step x H6 y6))) λ_ s7 ⟨σ7,H7,I7,q7,l7,o7⟩=>?_
   have cov:∀ (i:Nat) v,(iF cap σ)[i]? = some (some v)->σ7[i]? = some (some v):=λi v e=>by
    obtain⟨j,c1,c2⟩:=my e
    by_cases hi:i<own
    ·exact(C.o8 hi c1).elim
    ·rw[o7 i (by omega)];exact e
   have back:∀ {H8:Hp}{s8:Shared},Inv (fU X scope cl N fp s3 H3) ([]++ox fp s6.heap) σ7 H8 s8->Inv (fU X scope cl N fp s3 H3) [] (iF cap σ) H8 s8/\tn (i+1) s8.heap/\∀ b∈fp,H8 b=none:=λ{H8 s8} I8=>by
    refine⟨(Inv.lF (pins:=[]) I8).weak l7.symm cov,T.keep _ _ _ st6 λb hb o e=>(I8.pin (b,o) (az _ (az _ (iI hb e)))).1,λb hb=>?_⟩
    obtain⟨o,e,d⟩:=T.obj _ _ st6 b hb
    exact(I8.pin (b,o) (az _ (az _ (iI hb e)))).2.1
   refine thn (ht s3 H3 _ s7 σ7 H7 _ I7 q7) λb s8 ⟨H8,I8,q8⟩=>?_
   cases b with
   |false=>
    rw[aG aB]at q8 ⊢
    obtain⟨m',hm,w8⟩:=hNN _ q8
    obtain⟨J1,J2,J3⟩:=back I8
    exact⟨m',hm,i+1,H8,J1,J2,J3,w8⟩
   |true=>
    rw[aQ rfl]at q8 ⊢
    refine thn (he s3 H3 _ s8 σ7 H8 _ I8 q8) λv s9 ⟨y,H9,I9,r9,xs,k,b,ey,ha,hT,hb,hz,n1,n2⟩=>?_
    subst ey
    refine thn (Ew (X:=fU X scope cl N fp s3 H3) hu _ s9 σ7 H9 (.ref s2.heap.objs.size) [.ref b] (.ref s2.heap.objs.size) [v] (λ_ H10=>NN H10) I9 rfl (.cons r9 .nil) ⟨_,xs,k,b,rfl,rfl,ha,hT,hb,hz,n1,n2⟩) λ_ s10 ⟨_,H10,I10,_,w10⟩=>?_
    obtain⟨m',hm,w9⟩:=hNN _ w10
    obtain⟨J1,J2,J3⟩:=back I10
    exact⟨m',hm,i+1,H10,J1,J2,J3,w9⟩
 exact qt loop (T.self X.A 0 _ _ _ st4 loop)
theorem HX (hu:X.A.units+1<cLine)(hi:PI X tg iter wi)(hc:X.calm=true)(C:gF X.env.scope X.N scope N own cap)(ho:qj own g)
  (hg:∀ cl fp s3 H3,PG (fU X scope cl N fp s3 H3) tg g) (ht:∀ cl fp s3 H3,sE (fU X scope cl N fp s3 H3) ifs tt) (he:∀ cl fp s3 H3,PE (fU X scope cl N fp s3 H3) elt te)
  (hs:∀ x,foldedSetIterable iter X.env x=pure x:=by intro _;rfl):PE X (.SetComp elt [⟨tg,iter,ifs,0⟩] scope pos) (Le X.prog X.w X.K wi cap g tt te):=by
 intro pins s σ H Q I h
 obtain⟨cl,ecl,jX,mh⟩:=kW (scope:=scope) (env:=X.env) λy hy hf=>I.ok.has y.1 (C.fre y hy hf)
 rw[arm_eval_SetComp]
 refine cA (use:=none) rfl hs ecl C.kind C.loc (thn (hi pins s σ H _ I h) λxv s1 h1=>thn h1 λitv s2 h2=>?_)
 obtain⟨it,fp,tn,J,H2,e,I2,T,st2,f2,hw⟩:=h2
 subst e
 refine A1 (RR:=λacc C=>compPost (model X.prog X.w) X.A X.xe none (EP X pins σ Q) acc C) hu I2 T st2 f2 hc C ho jX mh (hg cl fp) (ht cl fp) (he cl fp) hw λl Ca s' H' m' I' hn kL hP q=>?_
 exact⟨m',hn,λh'' vg=>⟨.ref l,H',mx I' hP kL vg,rfl,q⟩⟩
end
section
variable {X:Cx}{pins:List (Addr×Obj)}{σ:St}{H1:Hp}{s2:Shared}{scope:Scope}{N:List Str}{own:Nat}{cap:List (Option Nat)}{cl:List (Str×Addr)}{fp:List Addr}
 {tg iter elt vlt:Expr}{ifs:List Expr}{pos:Pos}{g:TG}{tt:TT}{te tv:TE}{wi:TI}
noncomputable def DcW (J:It)(g:TG)(tt:TT)(te tv:TE)(cap:List (Option Nat))(σ:St)(Q:VK)(l:Addr)(H1:Hp):Prop:=
 ∃ W:Nat->Nat->Hp->Prop,(∃ m,W 0 m (upd H1 l (.dT [])))/\∀ i m H,W i m H->
  (J.stop i H/\Q (.ref l) H)\/(J.go i H/\∃ N:Hp->Prop,(∀ H',N H'->∃ m',m'<m/\W (i+1) m' H')/\
   ∀ x H',J.yld i H x H'->g x (iF cap σ) H' λσ2 H2=>tt σ2 H2 λb H3=>
    if b=true then te σ2 H3 λy H4=>tv σ2 H4 λv H5=>∃ (kvs:List (List Key×V)) (k:List Key) (b:Addr),y = .ref b/\H5 l=some (.dT kvs)/\H5 b=some (.tup (k.map kV))/\kvs.length<sizeLine/\N (upd H5 l (.dT (putK kvs k v)))
    else N H3)
noncomputable def tDC (wi:TI)(cap:List (Option Nat))(g:TG)(tt:TT)(te tv:TE):TE:=λσ H Q=>wi σ H λJ H1=>∀ l,H1 l=none->
 DcW J g tt te tv cap σ Q l H1
theorem De {it:Addr}{tn:Nat->Heap->Prop}{J:It}{Q:VK}{RR:Value->Addr->Result->Shared->Prop}{E:Value->Shared->Prop}(hu:X.A.units<cLine)(I:Inv X pins σ H1 s2)(T:Turn X.prog X.w X.K tg J fp it tn)(t0:tn 0 s2.heap)
  (f:∀ b∈fp,lS X pins H1 b) (hc:X.calm=true) (C:gF X.env.scope X.N scope N own cap) (ho:qj own g)
  (jX:∀ x c,cl.lookup x=some c->X.env.cells.lookup x=some c) (mh:∀ y∈scope.names,y.2 = .free->∃ c,cl.lookup y.1=some c)
  (hg:∀ s3 H3,PG (fU X scope cl N fp s3 H3) tg g) (ht:∀ s3 H3,sE (fU X scope cl N fp s3 H3) ifs tt) (he:∀ s3 H3,PE (fU X scope cl N fp s3 H3) elt te) (hv:∀ s3 H3,PE (fU X scope cl N fp s3 H3) vlt tv)
  (hw:∀ l,H1 l=none->DcW J g tt te tv cap σ Q l H1)
  (fin:∀ l C s' H' m',Inv X pins σ H' s'->s'.heap.Ns C m'->H' C=none->Apart X pins C->Q (.ref l) H'->RR (.ref l) C (.ok .next) s'):
  wpAny (model X.prog X.w) X.A newDict (λacc s₃=>wpAny (model X.prog X.w) X.A (newFunctionEnv scope X.env.globals cl [] X.env.qual none .none (some X.env)) (λrL s₄=>
   codeAny (model X.prog X.w) X.A (.compStart (.DictComp elt vlt [⟨tg,iter,ifs,0⟩] scope pos) 0 (.ref it) acc {rL with scope:=relabel scope X.env}) (RR acc rL.locals) s₄) E s₃) E s2:=by
 refine bW ?_
 refine dO C.sk (by intro y hy;simp at hy) (λh₁ jk jj=>?_) C.kind
 dsimp only at jk jj ⊢
 obtain⟨W,⟨m0,w0⟩,turn⟩:=hw s2.heap.objs.size I.fresh
 have I3:Inv X pins σ (upd H1 s2.heap.objs.size (.dT [])) {s2 with heap:=s2.heap.push {cls:=.type "dict",data:=.dict #[]}} :=
  I.laid (t':=s2.toks) (λb u e=>ax _ e) (ar _) (vt s2.heap I.big)
 generalize hs3:({s2 with heap:=s2.heap.push {cls:=.type "dict",data:=.dict #[]}} :Shared)=s3 at I3
 have hh3:s3.heap=s2.heap.push {cls:=.type "dict",data:=.dict #[]} :=by rw[<-hs3]
 rw[<-hh3]at jk jj ⊢
 have e4:({s2 with heap:=h₁,toks:=s2.toks+([]:List (Str×Value)).length} :Shared) = {s3 with heap:=h₁,toks:=s2.toks} :=by rw[<-hs3];rfl
 rw[e4]
 have k4:∀ b u,s3.heap.get? b=some u->h₁.get? b=some u:=λb u e=>jj.extBut b u (aL (aA e)) (ax _ e)
 have k3:∀ b u,s2.heap.get? b=some u->s3.heap.get? b=some u:=λb u e=>by rw[hh3];exact ax _ e
 have hb2:∀ b∈fp,b<s2.heap.objs.size:=λb hb=>by obtain⟨o,e,_⟩:=T.obj _ _ t0 b hb;exact aA e
 have f3:∀ b∈fp,lS X pins (upd H1 s2.heap.objs.size (.dT [])) b:=λb hb=>by
  obtain⟨f0,fr⟩:=f b hb
  exact⟨by rw[fK (aL (hb2 b hb))];exact f0,fr⟩
 have hb3:∀ b∈fp,b<s3.heap.objs.size:=λb hb=>by obtain⟨o,e,_⟩:=T.obj _ _ t0 b hb;exact aA (k3 b o e)
 have I4:=pg (tk:=s2.toks) I3 C jX mh (λb hb=>⟨f3 b hb,hb3 b hb⟩) jk k4
 generalize hH3:upd H1 s2.heap.objs.size (.dT [])=H3 at *
 have st4:tn 0 h₁:=T.keep _ _ _ t0 λb hb o e=>k4 b o (k3 b o e)
 have fpX:∀ {H':Hp},(∀ b∈fp,H' b=none)->∀ b∈fp,lS (fU X scope cl N fp s3 H3) [] H' b:=λ{H'} hn b hb=>by
  obtain⟨f0,f1,f2,f3',f4,f5⟩:=f3 b hb
  refine⟨hn b hb,aL (hb3 b hb),λhz=>?_,.inl hb,λx c e=>f4 x c (jX x c e),λp hp=>absurd (show p∈([]:List (Addr×Obj)) from hp) (by simp)⟩
  rcases aE.mp (I3.nv b hz)with z |z
  ·exact f1 z
  ·exact f2 z
 have loop:codeAny (model X.prog X.w) X.A (.compLoop (.DictComp elt vlt [⟨tg,iter,ifs,0⟩] scope pos) 0 (.ref it) (.ref s2.heap.objs.size) (compEnvC scope cl s3.heap.objs.size X.env)) (RR (.ref s2.heap.objs.size) s3.heap.objs.size) {s3 with heap:=h₁,toks:=s2.toks} :=by
  refine rK (λn s'=>∃ i H',Inv (fU X scope cl N fp s3 H3) [] (iF cap σ) H' s'/\tn i s'.heap/\(∀ b∈fp,H' b=none)/\W i n H') ?_ m0 ⟨0,H3,I4,st4,λb hb=>(f3 b hb).1,w0⟩
  rintro n s' ⟨i,H',I',st,fr,w⟩
  rcases turn i n H' w with⟨stop,q⟩|⟨go,NN,hNN,step⟩
  ·refine thn (T.done (fU X scope cl N fp s3 H3) rfl rfl rfl hc i [] s' _ H' (λ_ _=>False) I' (fpX fr) st stop) λr s5 ⟨hr,I5⟩=>?_
   subst hr
   obtain⟨m5,hn5,_⟩:=id I5.loc
   exact fin _ _ s5 H' m5 (comp_back I3 f3 I5) hn5 I5.free (TL.Inv.apart I3) q
  ·refine thn (T.item (fU X scope cl N fp s3 H3) rfl rfl rfl hc i [] s' _ H' (λ_ _=>False) I' (fpX fr) st go) λr s5 ⟨u,hr,h5⟩=>?_
   subst hr
   refine thn h5 λ_ s6 ⟨x,H6,I6,r6,y6,st6,fr6⟩=>?_
   have I6':=I6.pinned (fpX fr6) (T.obj _ _ st6)
   refine thn (hg s3 H3 _ s6 _ H6 x u _ I6' r6 (ho.own _ _ _ _ (step x H6 y6))) λ_ s7 ⟨σ7,H7,I7,q7,l7,o7⟩=>?_
   have cov:∀ (i:Nat) v,(iF cap σ)[i]? = some (some v)->σ7[i]? = some (some v):=λi v e=>by
    obtain⟨j,c1,c2⟩:=my e
    by_cases hi:i<own
    ·exact(C.o8 hi c1).elim
    ·rw[o7 i (by omega)];exact e
   have back:∀ {H8:Hp}{s8:Shared},Inv (fU X scope cl N fp s3 H3) ([]++ox fp s6.heap) σ7 H8 s8->Inv (fU X scope cl N fp s3 H3) [] (iF cap σ) H8 s8/\tn (i+1) s8.heap/\∀ b∈fp,H8 b=none:=λ{H8 s8} I8=>by
    refine⟨(Inv.lF (pins:=[]) I8).weak l7.symm cov,T.keep _ _ _ st6 λb hb o e=>(I8.pin (b,o) (az _ (az _ (iI hb e)))).1,λb hb=>?_⟩
    obtain⟨o,e,d⟩:=T.obj _ _ st6 b hb
    exact(I8.pin (b,o) (az _ (az _ (iI hb e)))).2.1
   refine thn (ht s3 H3 _ s7 σ7 H7 _ I7 q7) λb s8 ⟨H8,I8,q8⟩=>?_
   cases b with
   |false=>
    rw[aG aB]at q8 ⊢
    obtain⟨m',hm,w8⟩:=hNN _ q8
    obtain⟨J1,J2,J3⟩:=back I8
    exact⟨m',hm,i+1,H8,J1,J2,J3,w8⟩
   |true=>
    rw[aQ rfl]at q8 ⊢
    refine thn (he s3 H3 _ s8 σ7 H8 _ I8 q8) λu9 s9 ⟨y,H9,I9,r9,q9⟩=>?_
    refine thn (hv s3 H3 _ s9 σ7 H9 _ I9 q9) λv s10 ⟨v',H10,I10,r10,kvs,k,b,ey,ha,hb,hz,n10⟩=>?_
    obtain⟨m',hm,w10⟩:=hNN _ n10
    subst ey
    cases(show u9=Value.ref b from r9)
    refine Ff (X:=fU X scope cl N fp s3 H3) hu I10 ha hb hz r10 λs11 I11=>?_
    obtain⟨J1,J2,J3⟩:=back I11
    exact⟨m',hm,i+1,_,J1,J2,J3,w10⟩
 exact codeAny_compStart_dict loop (T.self X.A 0 _ _ _ st4 loop)
theorem Eb (hu:X.A.units<cLine)(hi:PI X tg iter wi)(hc:X.calm=true)(C:gF X.env.scope X.N scope N own cap)(ho:qj own g)
  (hg:∀ cl fp s3 H3,PG (fU X scope cl N fp s3 H3) tg g) (ht:∀ cl fp s3 H3,sE (fU X scope cl N fp s3 H3) ifs tt) (he:∀ cl fp s3 H3,PE (fU X scope cl N fp s3 H3) elt te) (hv:∀ cl fp s3 H3,PE (fU X scope cl N fp s3 H3) vlt tv)
  (hs:∀ x,foldedSetIterable iter X.env x=pure x:=by intro _;rfl):PE X (.DictComp elt vlt [⟨tg,iter,ifs,0⟩] scope pos) (tDC wi cap g tt te tv):=by
 intro pins s σ H Q I h
 obtain⟨cl,ecl,jX,mh⟩:=kW (scope:=scope) (env:=X.env) λy hy hf=>I.ok.has y.1 (C.fre y hy hf)
 rw[arm_eval_DictComp]
 refine cA (use:=none) rfl hs ecl C.kind C.loc (thn (hi pins s σ H _ I h) λxv s1 h1=>thn h1 λitv s2 h2=>?_)
 obtain⟨it,fp,tn,J,H2,e,I2,T,st2,f2,hw⟩:=h2
 subst e
 refine De (RR:=λacc C=>compPost (model X.prog X.w) X.A X.xe none (EP X pins σ Q) acc C) hu I2 T st2 f2 hc C ho jX mh (hg cl fp) (ht cl fp) (he cl fp) (hv cl fp) hw λl Ca s' H' m' I' hn kL hP q=>?_
 exact⟨m',hn,λh'' vg=>⟨.ref l,H',mx I' hP kL vg,rfl,q⟩⟩
end
end TL
namespace L2
open PySem PySem.Spec PySem.Calls PyProof.Rows PySem.W
noncomputable def Hi (K:Frag)(D:Addr)(th:TS)(Z:Ends):St->XK:=λσ c a H=>∃ e C,a=some e/\c = .ref C/\rW K D C/\th Z σ (upd H e (vq e C))
noncomputable def Jx (K:Frag)(D:Addr)(tb:(St->XK)->TS)(th:TS):TS:=λZ σ H=>tb (Hi K D th Z) Z σ H
section
variable {X:Cx}{body uc:List Stmt}{b₀:Stmt}{x:Str}{np CQ pos:Pos}{D:Addr}{tb:(St->XK)->TS}{th:TS}
theorem F7 (hst:X.stack=X.env::X.outer)(hfr:X.env.frame=some X.env.locals)(hex:X.ex = [])(hg:Gl X x)(hm:X.mg x=some (.ref D))
  (hb:∀ pn W (E:St->XK),yv (CXr X.prog X.w X.base) (X.oo pn W) E->PSs (X.oo pn W) body (tb E)) (hs:∀ e,PSs (X.lP e) (b₀::uc) th) (hd:(x==("__debug__" :Str))=false:=by decide):
  PS X (.Try body [.ExceptHandler (some (.Name x np)) none (b₀::uc) CQ] [] [] pos) (Jx X.K D tb th):=by
 intro pins s σ H Z I h
 refine wpAny_Try_except ?_
 refine bf (hb pins (λe s₁=>wpAny (model X.prog X.w) X.A (noteFrame e X.env) (λ_ s₂=>wpAny (model X.prog X.w) X.A (setFlight e none) (λ_ s₃=>wpAny (model X.prog X.w) X.A (handleBy e X.env [.ExceptHandler (some (.Name x np)) none (b₀::uc) CQ]) (SP X pins Z) X.xe s₃) X.xe s₂) X.xe s₁)
  (Hi X.K D th Z) ?_ pins s σ H Z (I.oo _) h) (λf s1 q=>?_) λe s1 q=>q
 ·intro sT σ1 H1 s1 ev s2 I1' hx
  have I1:Inv X pins σ1 H1 s1:=I1'.qk I.ok
  obtain⟨e,C',H2,B,rfl,ho,zA,x0,e',C,z1,z2,cat,q⟩:=hx
  obtain rfl:e=e':=bc z1
  obtain rfl:C'=C:=by injection z2
  have x0:Fl X.prog X.w X.base X.stack H1 H2 s1.heap e C' B s2.heap:=x0
  obtain⟨a0,f0⟩:=x0.fly
  have EX:=I.ok.frames
  rw[hst]at EX
  have f0':=f0
  rw[hst]at f0'
  show wpAny (model X.prog X.w) X.A (noteFrame (.ref e) X.env) _ _ s2
  refine wpAny_looks_onW EX hfr f0' λh4 hh4 sm4=>?_
  refine wpAny_landsW hh4 λh5 f5 sm5=>?_
  have f5':Heap.FlyingW B X.stack e (.ref C') a0 h5:=by rw[hst];exact f5
  have x5:Fl X.prog X.w X.base X.stack H1 H2 s1.heap e C' B h5:=⟨x0.toFl0.step f5'.1 f0.2.2.1 f5'.2.2.1 (sm4.trans sm5),a0,f5'⟩
  have I5:Inv X pins σ1 (upd H2 e (vq e C')) {s2 with heap:=h5} :=Fl.kept (s':={s2 with heap:=h5}) x5 I1 hex ho zA
  obtain⟨oe,he,hec⟩:=f5'.there
  refine wpAny_handleBy_cons (codeAny_handlers_test (oA (X:=X.lP e) (I5.lP e) hg hm ?_ hd)) (by intro q;cases q)
  refine Dn (K:=X.K) I5.kIn he hec cat.ty cat.isc cat.bex cat.mro (codeAny_handlers_suite ?_)
  refine lands_againW f5' λh6 f6 sm6=>?_
  have x6:Fl X.prog X.w X.base X.stack H1 H2 s1.heap e C' B h6:=⟨x5.toFl0.step f6.1 f5'.2.2.1 f6.2.2.1 sm6,a0,f6⟩
  have I6:Inv X pins σ1 (upd H2 e (vq e C')) {s2 with heap:=h6} :=Fl.kept (s':={s2 with heap:=h6}) x6 I1 hex ho zA
  refine bf (hs e pins {s2 with heap:=h6} σ1 _ Z (I6.lP e) q) (λf s8 q8=>?_) λ_ _ z=>False.elim z
  cases f with
  |next=>obtain⟨σ8,H8,I8,q8⟩:=q8;exact⟨σ8,H8,I8.uncaught I.ok,q8⟩
  |brk=>obtain⟨σ8,H8,I8,q8⟩:=q8;exact⟨σ8,H8,I8.uncaught I.ok,q8⟩
  |cont=>obtain⟨σ8,H8,I8,q8⟩:=q8;exact⟨σ8,H8,I8.uncaught I.ok,q8⟩
  |ret u=>obtain⟨v8,σ8,H8,I8,r8,q8⟩:=q8;exact⟨v8,σ8,H8,I8.uncaught I.ok,r8,q8⟩
 ·cases f with
  |next=>obtain⟨σ8,H8,I8,q8⟩:=q;exact eh ⟨σ8,H8,I8.qk I.ok,q8⟩
  |brk=>obtain⟨σ8,H8,I8,q8⟩:=q;exact⟨σ8,H8,I8.qk I.ok,q8⟩
  |cont=>obtain⟨σ8,H8,I8,q8⟩:=q;exact⟨σ8,H8,I8.qk I.ok,q8⟩
  |ret u=>obtain⟨v8,σ8,H8,I8,r8,q8⟩:=q;exact⟨v8,σ8,H8,I8.qk I.ok,r8,q8⟩
end
end L2
namespace TL
open PySem PySem.Spec PyProof.Rows L2
variable {l:Int×List (Int×Int)}
theorem AJ (h:gj l)(e:Int):(jn l.2 e).length<=60:=by
 unfold jn
 rw[oq,ak]
 exact h.inc e
theorem AV (h:gj l)(ns:List Int)(e:Int):(fr l ns e).length<=60:=bw (bS _ _) (AJ h e)
theorem ql {α β:Type}(f:α->β)(l:List α)(i:Nat)(x:α)(h:l[i]? = some x):(l.take (i+1)).map f=(l.take i).map f ++ [f x]:=by
 rw[aV,h,av];rfl
theorem Ck (l:Int×List (Int×Int))(ns:List Int):∀ m∈mvs l ns,PyData.strOk m.1.1=true:=λm hm=>by
 rcases aD.mp hm with z |z
 ·obtain⟨e,_,rfl⟩:=ao.mp z
  show PyData.strOk (Str.ofString "on")=true
  decide +kernel
 ·obtain⟨e,_,rfl⟩:=ao.mp z
  show PyData.strOk (Str.ofString "back")=true
  decide +kernel
noncomputable def dM (k:Str×Int):PyData:=.tuple [.str k.1,.int k.2]
variable {K:PySem.W.Frag}
theorem BC {H H1:Hp}{p:Addr}{ms:List Mv}{vs:List V}{i:Nat}{y:V}(D:Dgs (Lf H H1 p) (SqT K H1) (ms.map dMv) vs)(hy:vs[i]? = some y):
  ∃ m ad p1 b,ms[i]? = some m/\y = .ref ad/\SqT K H1 ad [.ref p1,.ref b]/\Da K H1 (dM m.1) (.ref p1)/\H1 b=some (.lst (m.2.map V.int))/\H b=none/\b≠p:=by
 obtain⟨d,e1,hd⟩:=Dgs.get D hy
 rw[ah]at e1
 cases q:ms[i]? with
 |none=>rw[q]at e1;cases e1
 |some m=>
  rw[q]at e1
  cases e1
  unfold dMv at hd
  obtain⟨ad,us,rfl,ht,q⟩:=ie.mp hd
  obtain⟨v1,r,rfl,h1,q⟩:=gm.mp q
  obtain⟨v2,r,rfl,h2,q⟩:=gm.mp q
  cases gN.mp q
  have h1':Da K H1 (dM m.1) v1:=Dg.mono (λa us h=>SqL.of h.1) (λ_ _ h=>h) h1
  obtain⟨p1,_,rfl,_,_⟩:=ie.mp h1
  unfold dI at h2
  obtain⟨b,zs,rfl,⟨l1,l2,l3⟩,hz⟩:=iE.mp h2
  rw[nY.mp hz]at l1
  exact⟨m,ad,p1,b,rfl,rfl,ht,h1',l1,l2,l3⟩
noncomputable def dLI (xss:List (List Int)):PyData:=.list (xss.map dI)
structure vF (K:PySem.W.Frag)(H:Hp)(q:Addr)(run:List (Str×Int)):Prop where
 ex:∃ vs,H q=some (.lst vs)/\Das K (hid q H) (run.map dM) vs
 ok:∀ k∈run,PyData.strOk k.1=true
theorem vF.same {H H':Hp}{q:Addr}{run:List (Str×Int)}(r:vF K H q run)(s:fL H H'):vF K H' q run:=by
 obtain⟨⟨vs,h1,h2⟩,h3⟩:=r
 exact⟨⟨vs,s _ _ h1,Das.same (pj s) h2⟩,h3⟩
noncomputable abbrev Ma:=Mv×Addr×Addr
noncomputable def Jj (K:PySem.W.Frag)(H H1:Hp)(p:Addr)(x:Ma):Prop:=(∃ p1,SqT K H1 x.2.1 [.ref p1,.ref x.2.2]/\Da K H1 (dM x.1.1) (.ref p1))/\H1 x.2.2=some (.lst (x.1.2.map V.int))/\H x.2.2=none/\x.2.2≠p
theorem ED {H H1:Hp}{p:Addr}{ms:List Mv}{vs:List V}(D:Dgs (Lf H H1 p) (SqT K H1) (ms.map dMv) vs):
  ∃ bs:List Ma,bs.map (·.1)=ms/\vs=bs.map (λx=>V.ref x.2.1)/\∀ x∈bs,Jj K H H1 p x:=by
 have hl:vs.length=ms.length:=by have:=D.length;rw[aa]at this;exact this
 have ex:∀ i:Nat,∃ x:Ma,∀ y,vs[i]? = some y->ms[i]? = some x.1/\y = .ref x.2.1/\Jj K H H1 p x:=λi=>by
  cases q:vs[i]? with
  |none=>exact⟨(((Str.ofString "",0),[]),0,0),λy e=>nomatch e⟩
  |some y=>
   obtain⟨m,ad,p1,b,h1,h2,h3,h4,h5,h6,h7⟩:=BC D q
   exact⟨(m,ad,b),λy' e=>by cases e;exact⟨h1,h2,⟨p1,h3,h4⟩,h5,h6,h7⟩⟩
 let g:Nat->Ma:=λi=>Classical.choose (ex i)
 have hg:∀ i y,vs[i]? = some y->ms[i]? = some (g i).1/\y = .ref (g i).2.1/\Jj K H H1 p (g i):=λi=>Classical.choose_spec (ex i)
 refine⟨(List.range vs.length).map g,ef λi=>?_,ef λi=>?_,λx hx=>?_⟩
 ·by_cases hi:i<vs.length
  ·rw[ah,ah,eW hi]
   exact((hg i _ (ag hi)).1).symm
  ·rw[bg (by simp;omega),bg (by omega)]
 ·by_cases hi:i<vs.length
  ·rw[ah,ah,eW hi,ag hi]
   exact cf some (hg i _ (ag hi)).2.1
  ·rw[bg (by omega),bg (by simp;omega)]
 ·obtain⟨i,hi,rfl⟩:=ao.mp hx
  have hi:i<vs.length:=by simpa using hi
  exact(hg i _ (ag hi)).2.2
theorem jf.snoc {ns:List Int}{x:Int}(ok:gj l)(T:jf l ns)(hne:ns≠ [])(hx:x∈fr l ns (oth (ns.getLastD 0))):jf l (ns ++ [x]):=by
 obtain⟨h1,h2⟩:=bE.mp hx
 have h2:¬x/2∈ns.map (· / 2):=by simpa using h2
 refine⟨λe he=>?_,?_,λi a b ha hb=>?_⟩
 ·rcases aD.mp he with z |z
  ·exact T.ends e z
  ·have z:e=x:=by simpa using z
   rw[z];exact vc ok h1
 ·rw[av,bQ]
  refine⟨T.nd,by simp,λa ha b hb=>?_⟩
  have hb:b=x/2:=by simpa using hb
  intro z
  exact h2 (by rw[<-hb,<-z];exact ha)
 ·by_cases hi:i+1<ns.length
  ·rw[aq hi]at hb
   rw[aq (by omega)]at ha
   exact T.ch i a b ha hb
  ·have hlt:i+1<(ns ++ [x]).length:=(af.mp hb).1
   rw[ak,aP]at hlt
   have e1:i+1=ns.length:=by omega
   rw[e1,ay (ar _),bu]at hb
   cases hb
   rw[aq (by omega)]at ha
   have e2:ns.getLastD 0=a:=by
    rw[fm,List.getLast?_eq_getElem?]
    have:ns.length-1=i:=by omega
    rw[this,ha];rfl
   rw[e2]at h1
   exact h1
theorem I0 {H:Hp}{k:Str×Int}{v:V}(h:Da K H (dM k) v):∃ a,v = .ref a/\SqT K H a [.str k.1,.int k.2]:=by
 unfold dM at h
 obtain⟨a,vs,rfl,ht,q⟩:=ie.mp h
 obtain⟨v1,r,rfl,h1,q⟩:=gm.mp q
 obtain⟨v2,r,rfl,h2,q⟩:=gm.mp q
 cases gN.mp q
 cases A0.mp h1
 cases iB.mp h2
 exact⟨a,rfl,ht⟩
theorem Hm {H:Hp}{k:Str×Int}{a:Addr}(h:SqT K H a [.str k.1,.int k.2]):Da K H (dM k) (.ref a):=ie.mpr ⟨a,_,rfl,h,Dgs.two (A0.mpr rfl) (iB.mpr rfl)⟩
noncomputable abbrev Sn (cs:List Ma):List Mv:=cs.map (·.1)
theorem CI {l:Ln}(ok:gj l){ns:List Int}{m:Mv}(hm:m∈mvs l ns):(m.1.1=Str.ofString "on" \/m.1.1=Str.ofString "back")/\0<=m.1.2/\m.1.2<2*l.1:=by
 rcases aD.mp hm with z |z
 ·obtain⟨e,he,h⟩:=ao.mp z
  rw[<-h]
  exact⟨.inl rfl,vc ok (yl he).1⟩
 ·obtain⟨e,he,h⟩:=ao.mp z
  rw[<-h]
  exact⟨.inr rfl,vc ok (yl he).1⟩
end TL
namespace TL
open PySem TS
open PyProof.Rows PySem.W
end TL
namespace TL
open PySem PySem.Spec PyProof.Rows L2 TS
end TL
namespace L2
open PySem PySem.Spec PyProof.Rows
end L2
namespace TL
open PySem PySem.Spec PyProof.Rows L2 TS
noncomputable def ou (lo:Int)(n:Nat):List Int:=(List.range n).map λi:Nat=>lo+(i:Int)
theorem qX (lo:Int)(n:Nat):(ou lo n).length=n:=by simp[ou]
theorem DQ {lo:Int}{n i:Nat}(h:i<n):(ou lo n)[i]? = some (lo+(i:Int)):=by simp[ou,h]
section
variable {X:Cx}
theorem Dh:kG X (.type "range") (λxs H Q=>∃ i j:Int,xs = [.int i,.int j]/\∀ p,H p=none->Q (.ref p) (upd H p (.rng i j))):=by
 intro pins s σ H xs us Q I r h
 obtain⟨i,j,rfl,q⟩:=h
 obtain⟨u,u2,rfl,ru,rc⟩:=vals2 r
 obtain⟨t,rfl⟩:=ru
 obtain⟨t2,rfl⟩:=rc
 refine call_range_2 ?_
 exact⟨.ref _,_,I.laid (o:=.rng i j) (λb u e=>ax _ e) (ar _) ⟨_,_,_,aR _ rfl⟩,rfl,q _ I.fresh⟩
theorem vY (hc:X.calm=true):kG X (.type "list") (λxs H Q=>∃ (p:Addr) (lo hi:Int),xs = [.ref p]/\H p=some (.rng lo hi)/\ -1000<=lo/\lo<=1000/\ -1000<=hi/\hi<=1000/\∀ l,H l=none->Q (.ref l) (upd H l (.lst ((ou lo (hi-lo).toNat).map V.int)))):=by
 intro pins s σ H xs us Q I r h
 obtain⟨p,lo,hi,rfl,hH,l1,l2,l3,l4,q⟩:=h
 obtain⟨u,rfl,ru⟩:=vals1 r
 cases ru
 obtain⟨t,u,v,e⟩:=I.hok p _ hH
 refine call_list_range (n:=(hi-lo).toNat) (I.ok.hd hc) e (small_one (by omega) (by omega) (by omega) (by omega)) (rangeSize_nat lo hi) (by omega) λh' tk acc c hk hg EY=>?_
 have hv:Vals ((ou lo (hi-lo).toNat).map V.int) acc.toList:=by
  have hI:IntsAre acc.toList (ou lo (hi-lo).toNat):=by
   have hl:acc.toList.length=(ou lo (hi-lo).toNat).length:=by rw[aS,EY.1,qX]
   have hg:∀ (j:Nat) (x:Value),acc.toList[j]? = some x->∃ t,x = .int (lo+(j:Int)) t:=λj x hx=>by
    obtain⟨t,e⟩:=EY.2 j x (by rw[<-bC];exact hx)
    exact⟨t,by rw[e];simp⟩
   have hg2:∀ (j:Nat) (x:Int),(ou lo (hi-lo).toNat)[j]? = some x->x=lo+(j:Int):=λj x hx=>by
    have hj:j<(hi-lo).toNat:=by
     have:=(af.mp hx).1
     rwa [qX]at this
    rw[DQ hj]at hx
    exact(bc hx).symm
   have gen:∀ (k:Nat) (vs:List Value) (ns:List Int),vs.length=ns.length->(∀ (j:Nat) (x:Value),vs[j]? = some x->∃ t,x = .int (lo+((k+j:Nat):Int)) t)->(∀ (j:Nat) (x:Int),ns[j]? = some x->x=lo+((k+j:Nat):Int))->IntsAre vs ns:=by
    intro k vs
    induction vs generalizing k with
    |nil=>intro ns hl _ _;cases ns with |nil=>exact .nil |cons _ _=>simp at hl
    |cons v vs ih=>
     intro ns hl h1 h2
     cases ns with
     |nil=>simp at hl
     |cons n ns=>
      obtain⟨t,e⟩:=h1 0 v rfl
      have e2:=h2 0 n rfl
      subst e
      rw[e2]
      exact .cons _ _ (ih (k+1) ns (by simpa using hl) (λj x hx=>by rw[show k+1+j=k+(j+1) by omega];exact h1 (j+1) x (by simpa using hx)) (λj x hx=>by rw[show k+1+j=k+(j+1) by omega];exact h2 (j+1) x (by simpa using hx)))
   exact gen 0 _ _ hl (λj x hx=>by rw[d9];exact hg j x hx) (λj x hx=>by rw[d9];exact hg2 j x hx)
  exact pP hI
 refine⟨.ref s.heap.objs.size,_,I.laid (t':=tk) (o:=.lst ((ou lo (hi-lo).toNat).map V.int)) (λb ob q=>hk b ob q) (ar _) ⟨?_,acc.toList,c,hv,?_⟩,rfl,q _ I.fresh⟩
 ·rw[aa,qX,cy];omega
 ·rw[hg,Array.toArray_toList]
end
end TL
namespace TL
open PySem L2 PyProof.Rows
open PySem.Spec TS
noncomputable def kyI (t:List Int):List Key:=t.map Sum.inl
theorem hX (t:List Int):(kyI t).map kV=t.map V.int:=by
 unfold kyI;rw[bo];rfl
theorem oB {a b:List Int}(h:kyI a=kyI b):a=b:=by
 unfold kyI at h
 induction a generalizing b with
 |nil=>cases b with |nil=>rfl |cons y r=>cases h
 |cons x r ih=>
  cases b with
  |nil=>cases h
  |cons y s=>
   rw[aZ,aZ,List.cons.injEq]at h
   rw[Sum.inl.inj h.1,ih h.2]
variable {ss:List (List Int)}
theorem Em:(ss.map kyI).Nodup↔ss.Nodup:=by
 unfold List.Nodup
 rw[cK]
 exact⟨λh=>h.imp λn e=>n (by rw[e]),λh=>h.imp λn e=>n (oB e)⟩
noncomputable abbrev Rows:=List (List Int×Int)
noncomputable def zL (r:List Int×Int):PyData:=.tuple [dI r.1,.int r.2]
noncomputable def K2 (rows:Rows):PyData:=.list (rows.map zL)
noncomputable def xx (l:Ln)(tr s:List Int):Prop:=s.length=tr.length/\s≠ []/\jf l s
noncomputable def pE (l:Ln)(tr:List Int)(ss:List (List Int)):Prop:=ss.Nodup/\∀ s∈ss,xx l tr s
noncomputable def g6 (rows:Rows)(s:List Int):Option Int:=(rows.find? λr=>decide (r.1=s)).map (·.2)
noncomputable def sS (l:Ln)(rows:Rows)(r:List Int×Int):Prop:=∀ m∈mvs l r.1,∃ n,g6 rows m.2=some n/\n<=r.2+1
noncomputable def zX (l:Ln)(tr:List Int)(rows:Rows):Prop:=pE l tr (rows.map (·.1))/\g6 rows tr=some 0/\∀ r∈rows,sS l rows r
noncomputable def kvR (rows:Rows):List (List Key×V):=rows.map λr=>(kyI r.1,V.int r.2)
theorem oC (rows:Rows)(s:List Int):jM (kvR rows) (kyI s)=(g6 rows s).map V.int:=by
 unfold jM g6 kvR
 rw[List.find?_map,Option.map_map,Option.map_map]
 have:((λkv:List Key×V=>decide (kv.1=kyI s)) ∘ λr:List Int×Int=>(kyI r.1,V.int r.2)) = λr=>decide (r.1=s):=by
  funext r
  show decide (kyI r.1=kyI s)=decide (r.1=s)
  by_cases h:r.1=s
  ·rw[bB h,bB (by rw[h])]
  ·rw[aW h,aW λz=>h (oB z)]
 rw[this]
 rfl
variable {rows:Rows}
theorem kT (nd:(rows.map (·.1)).Nodup){r:List Int×Int}(h:r∈rows):g6 rows r.1=some r.2:=by
 unfold g6
 induction rows with
 |nil=>cases h
 |cons q qs ih=>
  rw[aZ,bq]at nd
  by_cases e:q.1=r.1
  ·rw[cD (by simpa using e)]
   rcases aE.mp h with z |z
   ·rw[z];rfl
   ·exact absurd (ao.mpr ⟨r,z,e.symm⟩) nd.1
  ·rw[cm (by simpa using e)]
   rcases aE.mp h with z |z
   ·exact absurd (by rw[z]) e
   ·exact ih nd.2 z
theorem jK {s:List Int}{n:Int}(h:g6 rows s=some n):(s,n)∈rows:=by
 unfold g6 at h
 cases q:rows.find? λr=>decide (r.1=s)with
 |none=>rw[q]at h;cases h
 |some r=>
  rw[q]at h
  have h1:=fk q
  have h2:r.1=s:=by simpa using List.find?_some q
  have h3:r.2=n:=by simpa using h
  rw[<-h2,<-h3];exact h1
theorem uW {s:List Int}(h:g6 rows s=none):s∉rows.map (·.1):=λz=>by
 obtain⟨r,hr,e⟩:=ao.mp z
 unfold g6 at h
 rw[Option.map_eq_none_iff,List.find?_eq_none]at h
 exact h r hr (by simpa using e)
theorem Iq {ks:List (List Key)}(nd:ks.Nodup)(h:∀ k,k∈ks↔k∈ss.map kyI):ks.length<ss.length↔¬ss.Nodup:=by
 rw[<-Em,show ss.length=(ss.map kyI).length by rw[aa]]
 constructor
 ·intro hl nd2
  have:=ud nd2 λx hx=>(h x).mpr hx
  omega
 ·intro hn
  by_cases hl:ks.length<(ss.map kyI).length
  ·exact hl
  ·exact absurd (xZ nd (λx hx=>(h x).mp hx) (by omega)) hn
theorem DK {K:PySem.W.Frag}{H:Hp}{vs:List V}{i:Nat}{y:V}(D:Das K H (rows.map zL) vs)(h:vs[i]? = some y):∃ (r:List Int×Int) (ad:Addr) (u:V),rows[i]? = some r/\y = .ref ad/\SqT K H ad [u,.int r.2]/\Da K H (dI r.1) u:=by
 obtain⟨d,e1,hd⟩:=Dgs.get D h
 rw[ah]at e1
 cases q:rows[i]? with
 |none=>rw[q]at e1;cases e1
 |some r=>
  rw[q]at e1
  cases e1
  unfold zL at hd
  obtain⟨ad,us,rfl,ht,q⟩:=ie.mp hd
  obtain⟨v1,r',rfl,h1,q⟩:=gm.mp q
  obtain⟨v2,r',rfl,h2,q⟩:=gm.mp q
  cases gN.mp q
  cases iB.mp h2
  exact⟨r,ad,v1,rfl,rfl,ht,h1⟩
theorem BE {K:PySem.W.Frag}{H:Hp}{vs:List V}{i:Nat}{y:V}(D:Das K H (ss.map dI) vs)(h:vs[i]? = some y):∃ (s:List Int) (ad:Addr),ss[i]? = some s/\y = .ref ad/\SqL K H ad (s.map V.int):=by
 obtain⟨d,e1,hd⟩:=Dgs.get D h
 rw[ah]at e1
 cases q:ss[i]? with
 |none=>rw[q]at e1;cases e1
 |some s=>
  rw[q]at e1
  cases e1
  obtain⟨a,rfl,ha⟩:=ij.mp hd
  exact⟨s,a,rfl,rfl,ha⟩
theorem ER {A:Around}{k:Nat}(hr:m6 k A):A.units<cLine:=bL (dE _ _) hr.units
theorem zG:∀ (a b:List Int),PyData.eqvAll (a.map PyData.int) (b.map PyData.int)=decide (a=b)
 |[],[]=>by simp[PyData.eqvAll]
 |[],y::b=>by simp[PyData.eqvAll]
 |x::a,[]=>by simp[PyData.eqvAll]
 |x::a,y::b=>by
  rw[aZ,aZ,PyData.eqvAll,zG a b,bN]
  simp[PyData.eqv]
noncomputable def wt (l:Ln)(tr:List Int)(ss:List (List Int)):Prop:=ss.Nodup/\tr∈ss/\∀ s∈ss,xx l tr s/\∀ m∈mvs l s,m.2∈ss
noncomputable def HM (l:Ln)(tr:List Int)(rows:Rows):Prop:=∀ r∈rows,(r.1=tr->r.2=0)/\∀ q∈rows,q.1∈(mvs l r.1).map (·.2)->q.2<=r.2+1
theorem vD {l:Ln}{tr:List Int} :zX l tr rows↔wt l tr (rows.map (·.1))/\HM l tr rows:=by
 constructor
 ·rintro⟨⟨nd,st⟩,h0,h1⟩
  refine⟨⟨nd,ao.mpr ⟨_,jK h0,rfl⟩,λs hs=>⟨st s hs,λm hm=>?_⟩⟩,λr hr=>⟨λe=>?_,λq hq hm=>?_⟩⟩
  ·obtain⟨r,hr,rfl⟩:=ao.mp hs
   obtain⟨n,hn,_⟩:=h1 r hr m hm
   exact ao.mpr ⟨_,jK hn,rfl⟩
  ·have:=kT nd hr
   rw[e,h0]at this
   exact(bc this).symm
  ·obtain⟨m,hm1,hm2⟩:=ao.mp hm
   obtain⟨n,hn,hle⟩:=h1 r hr m hm1
   have:=kT nd hq
   rw[<-hm2,hn]at this
   cases this
   exact hle
 ·rintro⟨⟨nd,ht,st⟩,h1⟩
  obtain⟨r,hr,e⟩:=ao.mp ht
  refine⟨⟨nd,λs hs=>(st s hs).1⟩,?_,λr hr m hm=>?_⟩
  ·have:=kT nd hr
   rw[(h1 r hr).1 e,show r.1=tr from e]at this
   exact this
  ·obtain⟨q,hq,e⟩:=ao.mp ((st r.1 (ao.mpr ⟨r,hr,rfl⟩)).2 m hm)
   have e:q.1=m.2:=e
   exact⟨q.2,by rw[<-e];exact kT nd hq,(h1 r hr).2 q hq (ao.mpr ⟨m,hm,e.symm⟩)⟩
theorem xr {l:Ln}{tr:List Int} :zX l tr (ss.map λs=>(s,0))↔wt l tr ss:=by
 rw[vD,bo,show((λr:List Int×Int=>r.1) ∘ λs=>(s,(0:Int)))=id from rfl,List.map_id]
 refine⟨λh=>h.1,λh=>⟨h,λr hr=>?_⟩⟩
 obtain⟨s,hs,rfl⟩:=ao.mp hr
 refine⟨λ_=>rfl,λq hq _=>?_⟩
 obtain⟨s2,hs2,rfl⟩:=ao.mp hq
 show(0:Int)<=0+1
 omega
end TL
namespace TL
open PySem L2 PyProof.Rows
noncomputable def swp (p:Int×Int):Int×Int:=(p.2,p.1)
noncomputable def both (js:List (Int×Int)):List (Int×Int):=js++js.map swp
open PySem.Spec TS
noncomputable def Pw {α:Type}(R:α->V->Prop):List α->List V->Prop
 |[],[]=>True
 |d::ds,v::vs=>R d v/\Pw R ds vs
 |_,_=>False
theorem Pw.len {α:Type}{R:α->V->Prop} :∀ {ds:List α}{vs:List V},Pw R ds vs->vs.length=ds.length
 |[],[],_=>rfl
 |d::ds,v::vs,h=>by rw[aO,aO,Pw.len h.2]
theorem Pw.imp {α:Type}{R S:α->V->Prop}(f:∀ d v,R d v->S d v):∀ {ds:List α}{vs:List V},Pw R ds vs->Pw S ds vs
 |[],[],_=>trivial
 |d::ds,v::vs,h=>⟨f _ _ h.1,Pw.imp f h.2⟩
theorem Pw.app {α:Type}{R:α->V->Prop} :∀ {ds es:List α}{vs us:List V},Pw R ds vs->Pw R es us->Pw R (ds++es) (vs++us)
 |[],_,[],_,_,h=>h
 |d::ds,_,v::vs,_,h,h2=>⟨h.1,Pw.app h.2 h2⟩
theorem Pw.one {α:Type}{R:α->V->Prop}{d:α}{v:V}(h:R d v):Pw R [d] [v]:=⟨h,trivial⟩
section
variable {K:PySem.W.Frag}{l:Addr}{g:TG}{tt:TT}{te:TE}{cap:List (Option Nat)}{σ:St}{Q:VK}{H1:Hp}{J:It}
theorem Hc {α:Type}(n:Nat)(ds:List α)(Φ:Hp->α->V->Prop)(mono:∀ {H H':Hp} d v,fL H H'->Φ H d v->Φ H' d v)(hn:H1 l=none)(hlen:n=ds.length)(hz:n<sizeLine)(go:∀ i H,fL H1 H->i<n->J.go i H)(st:∀ H,fL H1 H->J.stop n H)
  (hs:∀ i x d H H',fL H1 H->(∃ us,H l=some (.lst us))->J.yld i H x H'->ds[i]? = some d->∀ (P1:VK) (P0:Hp->Prop),(∀ v H2,fL H H2->Φ (hid l H2) d v->P1 v H2)->
   g x (iF cap σ) H' λσ2 H2=>tt σ2 H2 λb H3=>if b=true then te σ2 H3 P1 else P0 H3)
  (hq:∀ vs H',fL H1 H'->H' l=some (.lst vs)->Pw (Φ (hid l H')) ds vs->Q (.ref l) H'):LcW J g tt te cap σ Q l H1:=by
 refine uY n (λi acc H=>Pw (Φ (hid l H)) (ds.take i) acc/\fL H1 H/\H l=some (.lst acc)) ⟨trivial,fF hn,fE⟩ (λi acc H hi ⟨_,s,_⟩=>go i H s hi) (λacc H ⟨_,s,_⟩=>st H s) ?_ ?_
 ·rintro i x acc H H' hi ⟨e1,s,hl⟩ y
  have hd:ds[i]? = some (ds[i]'(by omega)):=by simp
  generalize ds[i]'(by omega)=d at hd
  refine hs i x d H H' s ⟨_,hl⟩ y hd _ _ (λv H2 s2 dv=>?_)
  have la:=Pw.len e1
  rw[aM]at la
  refine⟨s2 _ _ hl,by omega,?_,fL.upd (s.trans s2) hn,fE⟩
  rw[pX,aV,hd]
  exact Pw.app (Pw.imp (λd v=>mono d v (pj s2)) e1) (Pw.one dv)
 ·rintro acc H ⟨e1,s,hl⟩
  rw[cj (by omega)]at e1
  exact hq acc H s hl e1
end
theorem Cj {l:Ln}{ns:List Int}(ok:gj l)(T:jf l ns):jf l (ns.reverse.map oth):=by
 refine⟨λe he=>?_,?_,λi x y hx hy=>?_⟩
 ·obtain⟨z,hz,rfl⟩:=ao.mp he
  have:=T.ends z (List.mem_reverse.mp hz)
  unfold oth;omega
 ·rw[bo,show((λx:Int=>x/2) ∘ oth)=(λx:Int=>x/2) from funext λe=>by show oth e/2=e/2;unfold oth;omega,fA]
  exact(List.reverse_perm _).nodup_iff.mpr T.nd
 ·rw[ah]at hx hy
  have hi:i+1<ns.length:=by
   by_cases z:i+1<ns.length
   ·exact z
   ·rw[bg (by rw[cR];omega)]at hy;cases hy
  rw[List.getElem?_reverse (by omega)]at hx
  rw[List.getElem?_reverse (by omega)]at hy
  cases q1:ns[ns.length-1-i]? with
  |none=>rw[q1]at hx;cases hx
  |some a=>
   cases q2:ns[ns.length-1-(i+1)]? with
   |none=>rw[q2]at hy;cases hy
   |some b=>
    rw[q1]at hx;rw[q2]at hy
    cases hx;cases hy
    have:=T.ch (ns.length-1-(i+1)) b a q2 (by rw[show ns.length-1-(i+1)+1=ns.length-1-i by omega];exact q1)
    rw[tM]
    exact BL ok this
end TL
namespace TL
open PySem PySem.Spec PyProof.Rows L2
section
variable {D:Ends}{σ:L2.St}{H:Hp}
theorem nm {t R:TS}(h:∀ r:TS,(∀ D σ H,R D σ H->r D σ H)->qg t r D σ H):qg t R D σ H:=h R λ_ _ _ z=>z
theorem nm2 {t1 t2 R:TS}(h:∀ r:TS,(∀ D σ H,R D σ H->r D σ H)->qg t1 (qg t2 r) D σ H):qg t1 (qg t2 R) D σ H:=h R λ_ _ _ z=>z
theorem nm3 {t1 t2 t3 R:TS}(h:∀ r:TS,(∀ D σ H,R D σ H->r D σ H)->qg t1 (qg t2 (qg t3 r)) D σ H):qg t1 (qg t2 (qg t3 R)) D σ H:=h R λ_ _ _ z=>z
theorem cut {t u:TS}(J:L2.St->Hp->Prop)(first:∀ (N:L2.St->Hp->Prop) (R:VK) (B C:L2.St->Hp->Prop),(∀ σ' H',J σ' H'->N σ' H')->(∀ v H',D.rt v H'->R v H')->t ⟨N,R,B,C⟩ σ H)(rest:∀ σ' H',J σ' H'->u D σ' H'):qg t u D σ H:=
 first (u D) D.rt D.bk D.ct rest λ_ _ z=>z
theorem iP {K:PySem.W.Frag}{a:Addr}{xs:List V}{g:TG}{tb:TS}(Pv:Nat->L2.St->Hp->Prop)(h0:Pv 0 σ H)(hl:∀ i σ H,i<=xs.length->Pv i σ H->SqL K H a xs)
  (hs:∀ i x σ H (N:L2.St->Hp->Prop) (R:VK) (B:L2.St->Hp->Prop),(∀ σ' H',Pv (i+1) σ' H'->N σ' H')->(∀ v H',D.rt v H'->R v H')->xs[i]? = some x->Pv i σ H->g x σ H λσ2 H2=>tb ⟨N,R,B,N⟩ σ2 H2) (hd:∀ σ H,Pv xs.length σ H->D.nx σ H):
  ∃ W:Nat->Nat->L2.St->Hp->Prop,(∃ m,W 0 m σ H)/\∀ i m σ H,W i m σ H->
   ((Itl K a).stop i H/\D.nx σ H)\/((Itl K a).go i H/\∃ N:L2.St->Hp->Prop,(∀ σ' H',N σ' H'->∃ m',m'<m/\W (i+1) m' σ' H')/\∀ x H',(Itl K a).yld i H x H'->g x σ H' λσ2 H2=>tb {D with nx:=N,ct:=N,bk:=D.nx} σ2 H2):=
 pk Pv h0 hl (λi x σ H hx p=>hs i x σ H _ _ _ (λ_ _ z=>z) (λ_ _ z=>z) hx p) hd
theorem oE {lo:Int}{n:Nat}{g:TG}{tb:TS}(Pv:Nat->L2.St->Hp->Prop)(h0:Pv 0 σ H)
  (hs:∀ i σ H (N:L2.St->Hp->Prop) (R:VK) (B:L2.St->Hp->Prop),(∀ σ' H',Pv (i+1) σ' H'->N σ' H')->(∀ v H',D.rt v H'->R v H')->i<n->Pv i σ H->g (.int (lo+i)) σ H λσ2 H2=>tb ⟨N,R,B,N⟩ σ2 H2) (hd:∀ σ H,Pv n σ H->D.nx σ H):
  ∃ W:Nat->Nat->L2.St->Hp->Prop,(∃ m,W 0 m σ H)/\∀ i m σ H,W i m σ H->
   ((Itr lo n).stop i H/\D.nx σ H)\/((Itr lo n).go i H/\∃ N:L2.St->Hp->Prop,(∀ σ' H',N σ' H'->∃ m',m'<m/\W (i+1) m' σ' H')/\∀ x H',(Itr lo n).yld i H x H'->g x σ H' λσ2 H2=>tb {D with nx:=N,ct:=N,bk:=D.nx} σ2 H2):=
 pY Pv h0 (λi σ H hx p=>hs i σ H _ _ _ (λ_ _ z=>z) (λ_ _ z=>z) hx p) hd
theorem xf {K:PySem.W.Frag}{a:Addr}{xs:List V}{g:TG}{tb:TS}(Pv:Nat->L2.St->Hp->Prop)(h0:Pv 0 σ H)(hl:∀ i σ H,i<=xs.length->Pv i σ H->SqL K H a xs)
  (hs:∀ i x σ H p (N:L2.St->Hp->Prop) (R:VK) (B:L2.St->Hp->Prop),(∀ σ' H',Pv (i+1) σ' H'->N σ' H')->(∀ v H',D.rt v H'->R v H')->xs[i]? = some x->Pv i σ H->H p=none->g (.ref p) σ (upd H p (.tup [.int i,x])) λσ2 H2=>tb ⟨N,R,B,N⟩ σ2 H2) (hd:∀ σ H,Pv xs.length σ H->D.nx σ H):
  ∃ W:Nat->Nat->L2.St->Hp->Prop,(∃ m,W 0 m σ H)/\∀ i m σ H,W i m σ H->
   ((Ite K a).stop i H/\D.nx σ H)\/((Ite K a).go i H/\∃ N:L2.St->Hp->Prop,(∀ σ' H',N σ' H'->∃ m',m'<m/\W (i+1) m' σ' H')/\∀ x H',(Ite K a).yld i H x H'->g x σ H' λσ2 H2=>tb {D with nx:=N,ct:=N,bk:=D.nx} σ2 H2):=
 E6 Pv h0 hl (λi x σ H p hx q np=>hs i x σ H p _ _ _ (λ_ _ z=>z) (λ_ _ z=>z) hx q np) hd
theorem rX {c:TT}{tb:TS}(Pv:L2.St->Hp->Prop)(μ:L2.St->Hp->Nat)(h0:Pv σ H)
  (hs:∀ σ H (N:L2.St->Hp->Prop) (R:VK) (B:L2.St->Hp->Prop),(∀ σ' H',Pv σ' H'->μ σ' H'<μ σ H->N σ' H')->(∀ v H',D.rt v H'->R v H')->(∀ σ' H',D.nx σ' H'->B σ' H')->Pv σ H->c σ H λb H1=>if b=true then tb ⟨N,R,B,N⟩ σ H1 else B σ H1)
  (mono:∀ σ H Q Q',(∀ b H1,Q b H1->Q' b H1)->c σ H Q->c σ H Q'):ua c tb D σ H:=
 yB Pv μ h0 (λσ H p=>hs σ H _ _ _ (λ_ _ a b=>⟨a,b⟩) (λ_ _ z=>z) (λ_ _ z=>z) p) mono
end
section
variable {prog:Program}{w:World}{A:Around}{E:Value->Shared->Prop}{s:Shared}{d it vw:Addr}{o:Obj}{es:Array DictEntry}{ep i:Nat}{ok ov:Value}
theorem Ao {Q:Value->Shared->Prop}(hn:(d==sysModules)=false)(ho:s.heap.get? d=some o)(hx:o.ExactDict)
  (hQ:Q (.ref s.heap.objs.size) {s with heap:=s.heap.push {cls:=.type "dict_items",data:=.fields #[.ref d]}}):wpAny (model prog w) A (call (.builtin "dict.items") [.ref d]) Q E s:=by
 have hT:=nQ ho hx
 refine bR F.slot_dict_items hT F.entry_dict_items ?_ (F.args_dict_items_1 _)
 unfold Builtin.«dict.items»
 refine ae ?_
 unfold Builtin.Dict.noArgs
 refine ae (wpAny_notOrdered_dict hT (aj ?_))
 show wpAny _ _ (Builtin.Dict.showsAll d >>= _) _ _ s
 unfold Builtin.Dict.showsAll
 rw[aG (by rw[hn];exact aB)]
 exact ae (aj (ae (bW (aj ⟨_,rfl,hQ⟩))))
theorem Cu {Q:Value->Shared->Prop}(hv:s.heap.IsItemsView vw d)(ho:s.heap.get? d=some o)(hd:o.data = .dict es ep)
  (hQ:Q (.ref s.heap.objs.size) {s with heap:=s.heap.push {cls:=.type "dict_itemiterator",data:=.fields #[.none,.bool false,.ref d,.int 0 0,.int es.size 0,.int ep 0,.none,.none]}}):wpAny (model prog w) A (pyIter (.ref vw)) Q E s:=by
 obtain⟨ov,hov,hcv,hdv⟩:=id hv
 have hT:=hv.typeIs
 refine wpAny_pyIter_slot hT F.slot_dict_items_iter (bR F.slot_dict_items_iter hT F.entry_dict_items_iter ?_ (F.args_dict_items_iter_1 _))
 unfold Builtin.«dict_items.__iter__»
 refine ae (aj (ae ?_))
 unfold Builtin.Dict_items.dictOf
 refine ae (wpAny_field hov hdv (x:=.ref d) rfl (aj (ae ?_)))
 unfold Builtin.Dict_items.newIterator
 refine ae (dG ho hd (ae (en ho hd ?_)))
 have yg:Builtin.Dict_items.ownsTuple "dict_itemiterator" = true:=by decide
 simp only[yg,cV]
 refine bW (aj ⟨_,rfl,"dict_itemiterator",_,⟨_,aR _ rfl,rfl⟩,cC.lookup,?_⟩)
  (by simp only[sizeOk,Builtin.Dict_items.ownedTupleFields,aK,ak,aO,eQ,cy];omega)
 simpa [rawInt,Builtin.Dict_items.ownedTupleFields]using hQ
theorem Ct {Q:Option Value->Shared->Prop}{e:DictEntry}(hit:IsItemIter s.heap it d i es.size ep ok ov)(ho:s.heap.get? d=some o)(hd:o.data = .dict es ep)(hx:es[i]? = some e)
  (hQ:∀ h',IsItemIterOut h' it d (i+1) es.size ep e.key e.val s.heap.objs.size->h'.get? s.heap.objs.size=some {cls:=.type "tuple",data:=.seq #[e.key,e.val]} ->
   (∀ b o,b≠it->s.heap.get? b=some o->h'.get? b=some o)->Q (some (.ref s.heap.objs.size)) {s with heap:=h'}):wpAny (model prog w) A (pyNext (.ref it)) Q E s:=by
 obtain⟨hp,g,dr,tk,os⟩:=s
 have hT:Shared.TypeIs ⟨hp,g,dr,tk,os⟩ (.ref it) "dict_itemiterator" :=⟨_,hit,rfl⟩
 unfold pyNext
 refine ae (wpAny_attempt (ez (name:=Str.ofString "__next__") hT cC
  (bR cC hT F.entry_dict_itemiterator_next ?_ (F.args_dict_itemiterator_next_1 _))))
 refine ae (aj (ae (ae ?_)))
 first |refine ae (cZ hT (aj ?_))|refine ae (dX hT (aj ?_))
 refine ae (wpAny_fieldsOf hit rfl ?_)
 have yg:Builtin.Dict_items.ownsTuple "dict_itemiterator" = true:=by decide
 simp only[yg,cV]
 show wpAny _ _ (if(Value.ref d==Value.none)=true then _ else _) _ _ _
 rw[aG (show ¬((Value.ref d==Value.none)=true) from aB)]
 refine ae (aj (ae (dG ho hd ?_)))
 rw[aG (by simp)]
 refine ae (aj (ae (en ho hd ?_)))
 rw[aG (by simp)]
 refine aj ?_
 obtain⟨hlt,he⟩:=bx.mp hx
 simp only[show ¬((i:Int)<0) from by omega,bG,dy,bD hlt]
 rw[he]
 refine ae ?_
 first |refine ae (cZ hT (aj ?_))|refine ae (dX hT (aj ?_))
 refine ae (wpAny_isOneOf_itemiter hT ?_)
 show wpAny _ _ (setField (.ref it) 3 (rawInt ((i:Int)+1)) >>= _) _ _ ⟨hp,g,dr,tk,os⟩
 refine ae (eo hit (by simp) λh₁ he₁ hs₁=>?_)
 replace hs₁:Heap.SameBut it hp h₁:=hs₁
 replace he₁:IsItemIter h₁ it d (i+1) es.size ep ok ov:=by
  have e:((i+1:Nat):Int)=(i:Int)+1:=by omega
  unfold IsItemIter;rw[e];simpa [rawInt]using he₁
 have hT₁:Shared.TypeIs ⟨h₁,g,dr,tk,os⟩ (.ref it) "dict_itemiterator" :=⟨_,he₁,rfl⟩
 refine ae (dD ?_)
 refine ae (wpAny_isOneOf_itemiter hT₁ (ae (wpAny_isOneOf_itemiter hT₁ ?_)))
 show wpAny _ _ (Builtin.Dict_items.pairFromOwner (.ref it) 6 e.key e.val) _ _ ⟨h₁,g,dr,tk,os⟩
 unfold Builtin.Dict_items.pairFromOwner
 refine ae (wpAny_newTuple ?_)
 have he₂:IsItemIter (h₁.push {cls:=.type "tuple",data:=.seq #[e.key,e.val]}) it d (i+1) es.size ep ok ov:=ax _ he₁
 generalize hh₂:h₁.push {cls:=.type "tuple",data:=.seq #[e.key,e.val]} = h₂ at he₂
 have hz₁:h₁.objs.size=hp.objs.size:=hs₁.1
 have hil:it<hp.objs.size:=aA hit
 have ht₂:h₂.get? hp.objs.size=some {cls:=.type "tuple",data:=.seq #[e.key,e.val]} :=by rw[<-hh₂,<-hz₁];exact aR _ rfl
 have hk₂:∀ b o,b≠it->hp.get? b=some o->h₂.get? b=some o:=λb o hb e=>by rw[<-hh₂];exact ax _ (hs₁.extBut b o hb e)
 show wpAny _ _ (Builtin.Dict_items.ownedTupleIsFree (.ref it) >>= _) _ _ ⟨h₂,g,dr,tk,os⟩
 rw[hz₁]
 clear hh₂ he₁ hs₁ hT₁ hz₁ h₁
 refine ae ?_
 unfold Builtin.Dict_items.ownedTupleIsFree
 refine ae (wpAny_field he₂ rfl (x:=.none) rfl (aj ?_))
 simp only[cV]
 refine ae (wpAny_field he₂ rfl (x:=ok) rfl (ae (wpAny_field he₂ rfl (x:=ov) rfl ?_)))
 refine ae (eo he₂ (by simp) λh₃ he₃ hs₃=>?_)
 replace hs₃:Heap.SameBut it h₂ h₃:=hs₃
 replace he₃:IsItemIter h₃ it d (i+1) es.size ep e.key ov:=he₃
 refine ae (eo he₃ (by simp) λh₄ he₄ hs₄=>?_)
 replace hs₄:Heap.SameBut it h₃ h₄:=hs₄
 replace he₄:IsItemIter h₄ it d (i+1) es.size ep e.key e.val:=he₄
 refine ae (eo he₄ (by simp) λh₅ he₅ hs₅=>?_)
 replace hs₅:Heap.SameBut it h₄ h₅:=hs₅
 replace he₅:IsItemIterOut h₅ it d (i+1) es.size ep e.key e.val hp.objs.size:=he₅
 refine ae (eo he₅ (by simp) λh₆ he₆ hs₆=>?_)
 replace hs₆:Heap.SameBut it h₅ h₆:=hs₆
 replace he₆:IsItemIterOut h₆ it d (i+1) es.size ep e.key e.val hp.objs.size:=he₆
 refine ae (wpAny_letGo (aj (aj ⟨_,rfl,aj (hQ h₆ he₆ ?_ ?_)⟩)))
 ·exact hs₆.extBut _ _ (cW hil) (hs₅.extBut _ _ (cW hil) (hs₄.extBut _ _ (cW hil) (hs₃.extBut _ _ (cW hil) ht₂)))
 ·exact λb o hb e=>hs₆.extBut b o hb (hs₅.extBut b o hb (hs₄.extBut b o hb (hs₃.extBut b o hb (hk₂ b o hb e))))
theorem DU {Q:Option Value->Shared->Prop}(hh:A.handled=none)(hit:IsItemIter s.heap it d i es.size ep ok ov)(ho:s.heap.get? d=some o)(hd:o.data = .dict es ep)(hx:es.size<=i)
  (hQ:∀ h',Heap.ExtBut it s.heap h'->Q none {s with heap:=h'}):wpAny (model prog w) A (pyNext (.ref it)) Q E s:=by
 have hT:s.TypeIs (.ref it) "dict_itemiterator" :=⟨_,hit,rfl⟩
 unfold pyNext
 refine ae (wpAny_attempt (ez (name:=Str.ofString "__next__") hT cC
  (bR cC hT F.entry_dict_itemiterator_next ?_ (F.args_dict_itemiterator_next_1 _))))
 refine ae (aj (ae (ae ?_)))
 first |refine ae (cZ hT (aj ?_))|refine ae (dX hT (aj ?_))
 refine ae (wpAny_fieldsOf hit rfl ?_)
 have yg:Builtin.Dict_items.ownsTuple "dict_itemiterator" = true:=by decide
 simp only[yg,cV]
 show wpAny _ _ (if(Value.ref d==Value.none)=true then _ else _) _ _ s
 rw[aG (show ¬((Value.ref d==Value.none)=true) from aB)]
 refine ae (aj (ae (dG ho hd ?_)))
 rw[aG (by simp)]
 refine ae (aj (ae (en ho hd ?_)))
 rw[aG (by simp)]
 refine aj ?_
 simp only[show ¬((i:Int)<0) from by omega,bG,dy,Array.getElem?_eq_none hx]
 refine ae ?_
 first |refine ae (cZ hT (aj ?_))|refine ae (dX hT (aj ?_))
 show wpAny _ _ (setField (.ref it) 2 .none >>= _) _ _ s
 refine ae (wpAny_setField hit rfl (by simp) ?_)
 show wpAny _ _ (newExc (.type "StopIteration") [] >>= _) _ _ _
 refine ae ?_
 simp only[newExc,newTuple]
 refine ae (bW ?_ (by size_fits))
 refine ae (m:=firstArgMember _ _) (wpAny_of_eq (a:=Value.none) (by first |rfl |(simp only[firstArgMember];rfl)) ?_)
 refine bW ?_ (by size_fits)
 simp only[raiseNew]
 refine ae (wpAny_handled ?_)
 rw[show A.in1.handled=none from hh]
 refine ae (aj (wpAny_throw ?_))
 refine ae (eY (T:= "StopIteration") (b:=true) ⟨_,aR _ rfl,rfl⟩ isSubtype_stop ?_)
 exact aj (hQ _ (((dY ..).extBut.push _).push _))
end
noncomputable def Itm (a:Addr)(o:Obj)(kvs:List (List Key×V)):It:=
 ⟨λi H=>H a=some (.frz o (.dT kvs))/\i<kvs.length,λi H x H'=>∃ p b kv,H p=none/\x = .ref p/\kvs[i]? = some kv/\H b=some (.tup (kv.1.map kV))/\H'=upd H p (.tup [.ref b,kv.2]),λi H=>H a=some (.frz o (.dT kvs))/\kvs.length<=i⟩
theorem Ae {P:Program}{w:World}{K:PySem.W.Frag}{els:List Expr}{x1:Nat}{pt:Pos}(a it:Addr)(o:Obj)(kvs:List (List Key×V))(es:Array DictEntry)(ep:Nat)(hd:o.data = .dict es ep)(hl:es.size=kvs.length):
  Turn P w K (.Tuple els x1 pt) (Itm a o kvs) [it] it (λi h=>∃ ok ov,IsItemIter h it a i es.size ep ok ov) where
 mem:=by simp
 obj:=λi h st b hb=>by
  have e:b=it:=by simpa using hb
  subst e
  obtain⟨ok,ov,q⟩:=st
  exact⟨_,q,λv z=>by cases z⟩
 keep:=λi h h' ⟨ok,ov,q⟩ k=>⟨ok,ov,k it (by simp) _ q⟩
 item:=by
  intro X hP hw hK hc i pins s σ H E I hf st hg
  subst hP hw hK
  obtain⟨ok,ov,st⟩:=st
  obtain⟨ha,hi⟩:=hg
  obtain⟨ho,z,hm,xs,r,o',es',ep',e',_,hd',hes,_⟩:=I.hok a _ ha
  rw[ho]at e'
  cases e'
  rw[hd]at hd'
  cases hd'
  have hp:kvs[i]? = some kvs[i]:=by simp[hi]
  obtain⟨q,hq,q1,q2,q3⟩:=pW r hp
  have he:es[i]? = some (entryOfKey (tupleKind (gu X.prog X.w)) q):=by
   rw[<-bC,hes,ah,hq];rfl
  have lt1:it<s.heap.objs.size:=aA st
  refine Ct st ho hd he λh' k1 k3 k5=>?_
  refine⟨_,rfl,?_⟩
  refine wpAny_letOwnedTupleGo_items (s:={s with heap:=h'}) k1 λh'' m1 m2=>?_
  have keep:∀ b o,b∉ [it]->s.heap.get? b=some o->h''.get? b=some o:=λb o hb q=>m2.extBut b o (λz=>hb (by simp[z])) (k5 b o (λz=>hb (by simp[z])) q)
  have ht:h''.get? s.heap.objs.size=some {cls:=.type "tuple",data:=.seq [Value.ref q.2.1,q.2.2].toArray} :=m2.extBut _ _ (cW lt1) k3
  have J1:Inv X pins σ (upd H s.heap.objs.size (.tup [.ref q.2.1,(kvs[i]).2])) {s with heap:=h'',toks:=s.toks} :=Inv.rY I hf keep (.cons rfl (.cons q3 .nil)) (by show 2<=sizeLine;decide) ht
  have hn:H s.heap.objs.size=none:=I.fresh
  refine⟨.ref s.heap.objs.size,_,J1,rfl,⟨_,q.2.1,_,hn,rfl,hp,q2,rfl⟩,⟨_,_,m1⟩,λb hb=>?_⟩
  have e:b=it:=by simpa using hb
  subst e
  rw[fK (aL lt1)]
  exact(hf b hb).1
 done:=by
  intro X hP hw hK hc i pins s σ H E I hf st hg
  subst hP hw hK
  obtain⟨ok,ov,st⟩:=st
  obtain⟨ha,hi⟩:=hg
  obtain⟨ho,_⟩:=I.hok a _ ha
  obtain⟨g0,g1,g2,g3,g4,g5⟩:=hf it (by simp)
  exact DU (I.ok.hd hc) st ho hd (by rw[hl];exact hi) λh' eb=>⟨rfl,I.turned (t':=s.toks) (λb u hb e=>eb b u hb e) g0 g1 g3 g4 g5⟩
 self:=λ_ _ _ _ _ ⟨_,_,st⟩ h=>PySem.W.kcp_self st h
section
variable {X:Cx}
noncomputable def ID (tl:TE):TI:=λσ H R=>tl σ H λx H1=>∃ a o kvs,x = .ref a/\H1 a=some (.frz o (.dT kvs))/\R (Itm a o kvs) H1
theorem yY {els:List Expr}{x1:Nat}{pt apos kJ:Pos}{e:Expr}{tl:TE}(hl:PE X e tl)(zC:attributeBase e "items" X.env (eval e X.env)=eval e X.env:=by rfl)(zy:(apos.endLine==kJ.line)=true:=by rfl):
  PI X (.Tuple els x1 pt) (.Call (.Attribute e "items" apos) [] [] kJ) (ID tl):=by
 intro pins s σ H R I h
 refine wpAny_Call_method0_late zC zy (thn (hl pins s σ H _ I h) λu s1 ⟨x,H1,I1,r1,a,o,kvs,ex,ha,q⟩=>?_)
 subst ex
 cases(show u=Value.ref a from r1)
 obtain⟨ho,z,hm,xs,r,o',es,ep,e',hxd,hd,hes,_⟩:=I1.hok a _ ha
 rw[ho]at e'
 cases e'
 have hsz:es.size=kvs.length:=by
  have h1:=cf List.length hes
  rw[aS,aa,<-bX r]at h1
  exact h1
 refine⟨"dict","dict.items",PySem.F.plainAttrs_dict,PySem.F.slot_dict_items,PySem.F.type_dict_items,nQ ho hxd,λb eb=>by cases eb;exact⟨o,ho,hxd.2.1⟩,eN rfl (PySem.evalArgs_none (Ao hm ho hxd ?_))⟩
 have hv:({s1 with heap:=s1.heap.push {cls:=.type "dict_items",data:=.fields #[.ref a]}} :Shared).heap.IsItemsView s1.heap.objs.size a:=⟨_,aR _ rfl,rfl,rfl⟩
 have k1:∀ b u,s1.heap.get? b=some u->(s1.heap.push {cls:=.type "dict_items",data:=.fields #[.ref a]}).get? b=some u:=λb u e=>ax _ e
 have I2:=I1.kept (t':=s1.toks) k1
 refine Cu hv (k1 _ _ ho) hd ?_
 have hz:(s1.heap.push {cls:=.type "dict_items",data:=.fields #[.ref a]}).objs.size=s1.heap.objs.size+1:=Heap.size_push ..
 refine⟨_,[_],_,_,H1,rfl,I2.kept (t':=s1.toks) (λb u e=>ax _ e),Ae a _ o kvs es ep hd hsz,⟨_,_,aR _ rfl⟩,λb hb=>?_,q⟩
 have e:b=(s1.heap.push {cls:=.type "dict_items",data:=.fields #[.ref a]}).objs.size:=by simpa using hb
 subst e
 exact I2.AW (ar _) (I2.hok.fresh (ar _))
end
theorem yA {c:TT}{tb:TS}{D:Ends}{σ:L2.St}{H:Hp}(Pv:Nat->L2.St->Hp->Prop)(n:Nat)(h0:Pv n σ H)
  (hs:∀ n σ H,Pv n σ H->c σ H λb H1=>if b=true then tb {D with nx:=λσ' H'=>∃ m,m<n/\Pv m σ' H',ct:=λσ' H'=>∃ m,m<n/\Pv m σ' H',bk:=D.nx} σ H1 else D.nx σ H1)
  (mono:∀ σ H Q Q',(∀ b H1,Q b H1->Q' b H1)->c σ H Q->c σ H Q'):ua c tb D σ H:=by
 refine⟨λm σ H=>Pv m σ H,⟨n,h0⟩,?_⟩
 intro m σ H p
 refine mono σ H _ _ (λb H1 q=>?_) (hs m σ H p)
 cases b with
 |true=>exact⟨_,λσ' H' h=>h,q⟩
 |false=>exact q
structure pM (es:List Ent):Prop where
 back:∀ (j:Nat) t' t k,es[j]? = some (t',some (t,k))->∃ i e,i<j/\es[i]? = some e/\e.1=t
 ok:∀ (j:Nat) t' t k,es[j]? = some (t',some (t,k))->PyData.strOk k.1=true
theorem DA {l:Ln}{ns:List Int}{m:Mv}(hm:m∈mvs l ns):PyData.strOk m.1.1=true:=by
 rcases aD.mp hm with z |z
 ·obtain⟨e,_,rfl⟩:=ao.mp z
  show PyData.strOk (Str.ofString "on")=true
  decide +kernel
 ·obtain⟨e,_,rfl⟩:=ao.mp z
  show PyData.strOk (Str.ofString "back")=true
  decide +kernel
variable {es:List Ent}
theorem pM.add {t:List Int}{m:Mv}{i:Nat}{e:Ent}(h:pM es)(hi:es[i]? = some e)(he:e.1=t)(ok:PyData.strOk m.1.1=true):pM (nF t es m):=by
 unfold nF
 split
 ·exact h
 ·have hlt:=(af.mp hi).1
  refine⟨λj t' u k hj=>?_,λj t' u k hj=>?_⟩
  ·by_cases hjl:j<es.length
   ·rw[aq hjl]at hj
    obtain⟨i2,e2,h1,h2,h3⟩:=h.back j t' u k hj
    exact⟨i2,e2,h1,by rw[aq (by omega)];exact h2,h3⟩
   ·have hj2:j=es.length:=by
     have:=(af.mp hj).1
     rw[ak,aP]at this
     omega
    rw[hj2,ay (ar _),bu]at hj
    cases hj
    exact⟨i,e,by omega,by rw[aq hlt];exact hi,he⟩
  ·by_cases hjl:j<es.length
   ·rw[aq hjl]at hj
    exact h.ok j t' u k hj
   ·have hj2:j=es.length:=by
     have:=(af.mp hj).1
     rw[ak,aP]at this
     omega
    rw[hj2,ay (ar _),bu]at hj
    cases hj
    exact ok
theorem pM.scan {t:List Int}{i:Nat}{e:Ent}(he:e.1=t):∀ {ms:List Mv}{es:List Ent},(∀ m∈ms,PyData.strOk m.1.1=true)->es[i]? = some e->pM es->pM (gW t ms es)
 |[],_,_,_,h=>h
 |m::r,es,ok,hi,h=>by
  refine pM.scan (ms:=r) (i:=i) he (λx hx=>ok x (aw _ hx)) ?_ (h.add hi he (ok m aC))
  obtain⟨u,hu⟩:=vE t es m
  rw[<-hu,aq (af.mp hi).1]
  exact hi
theorem pO (l:Ln)(ns:List Int):∀ i,pM (fR l ns i)
 | 0=>by
  refine⟨λj t' t k hj=>?_,λj t' t k hj=>?_⟩
  ·match j,hj with
   | 0,hj=>cases hj
  ·match j,hj with
   | 0,hj=>cases hj
 |i+1=>by
  have ih:=pO l ns i
  rw[fR]
  split
  ·rename_i e he
   exact pM.scan rfl (λm hm=>DA hm) he ih
  ·exact ih
inductive qC (es:List Ent):List Int->List (Str×Int)->Prop
 |nil {t:List Int} :(t,none)∈es->qC es t []
 |snoc {t' t:List Int}{k:Str×Int}{r:List (Str×Int)} :(t',some (t,k))∈es->qC es t r->qC es t' (r ++ [k])
open TS
noncomputable def uT (rows:Rows)(e:Ent):Int:=match e.2 with
 |none=>0
 |some (t,_)=>(g6 rows t).getD 0+1
noncomputable def uz (acc:Rows)(es:List Ent):Rows:=es.foldl (λrows e=>rows ++ [(e.1,uT rows e)]) acc
noncomputable def fY (es:List Ent):Rows:=uz [] es
theorem wF:∀ (es:List Ent) (acc:Rows),(uz acc es).map (·.1)=acc.map (·.1)++es.map (·.1)
 |[],acc=>by simp[uz]
 |e::es,acc=>by
  have:=wF es (acc ++ [(e.1,uT acc e)])
  show(uz (acc ++ [(e.1,uT acc e)]) es).map (·.1)=_
  rw[this,av];simp
theorem ix (es:List Ent):(fY es).map (·.1)=es.map (·.1):=by unfold fY;rw[wF];rfl
theorem jw (es:List Ent):(fY es).length=es.length:=by have:=cf List.length (ix es);rwa [aa,aa]at this
theorem wD:∀ (es:List Ent) (acc:Rows),acc <+:uz acc es
 |[],acc=>bO _
 |e::es,acc=>(cX acc [(e.1,uT acc e)]).trans (wD es _)
theorem wG (es more:List Ent):fY (es++more)=uz (fY es) more:=by unfold fY uz;rw[cM]
theorem pU {es':List Ent}(h:es <+:es'):fY es <+:fY es':=by
 obtain⟨r,rfl⟩:=h
 rw[wG]
 exact wD _ _
theorem mJ (es:List Ent)(e:Ent):fY (es ++ [e])=fY es ++ [(e.1,uT (fY es) e)]:=by rw[wG];rfl
variable {rows:Rows}
theorem mw {GY:Rows}(h:rows <+:GY){t:List Int}{n:Int}(hl:g6 rows t=some n):g6 GY t=some n:=by
 obtain⟨r,rfl⟩:=h
 unfold g6 at hl ⊢
 rw[List.find?_append]
 cases q:rows.find? λr=>decide (r.1=t)with
 |none=>rw[q]at hl;cases hl
 |some x=>rw[q]at hl;exact hl
theorem uX {t:List Int}(h:t∈rows.map (·.1)):∃ n,g6 rows t=some n:=by
 cases q:g6 rows t with
 |none=>exact absurd h (uW q)
 |some n=>exact⟨n,rfl⟩
theorem wY {t:List Int}{n:Int}(h:t∉rows.map (·.1)):g6 (rows ++ [(t,n)]) t=some n:=by
 have q:g6 rows t=none:=by
  cases q:g6 rows t with
  |none=>rfl
  |some x=>exact absurd (ao.mpr ⟨_,jK q,rfl⟩) h
 unfold g6 at q ⊢
 rw[Option.map_eq_none_iff]at q
 rw[List.find?_append,q]
 simp
structure Lvl (es:List Ent)(d:Int):Prop where
 mono:(fY es).Pairwise λa b=>a.2<=b.2
 top:∀ r∈fY es,r.2<=d+1
theorem Lvl.add {d:Int}{t:List Int}{m:Mv}(h:Lvl es d)(ht:g6 (fY es) t=some d):Lvl (nF t es m) d/\∃ n,g6 (fY (nF t es m)) m.2=some n/\n<=d+1:=by
 unfold nF
 by_cases hm:m.2∈es.map (·.1)
 ·rw[aQ hm]
  obtain⟨n,hn⟩:=uX (rows:=fY es) (by rw[ix];exact hm)
  exact⟨h,n,hn,h.top _ (jK hn)⟩
 ·rw[aG hm]
  have hn:uT (fY es) (m.2,some (t,m.1))=d+1:=by
   show(g6 (fY es) t).getD 0+1=d+1
   rw[ht];rfl
  refine⟨⟨?_,λr hr=>?_⟩,d+1,?_,Int.le_refl _⟩
  ·rw[mJ,List.pairwise_append]
   refine⟨h.mono,by simp,λa ha b hb=>?_⟩
   rw[bH.mp hb]
   show a.2<=uT (fY es) (m.2,some (t,m.1))
   rw[hn]
   exact h.top a ha
  ·rw[mJ]at hr
   rcases aD.mp hr with z |z
   ·exact h.top r z
   ·rw[bH.mp z]
    show uT (fY es) (m.2,some (t,m.1))<=d+1
    rw[hn];exact Int.le_refl _
  ·rw[mJ]
   show g6 (fY es ++ [(m.2,uT (fY es) (m.2,some (t,m.1)))]) m.2=some (d+1)
   rw[hn]
   exact wY (by rw[ix];exact hm)
theorem Lvl.scan {d:Int}{t:List Int} :∀ (ms:List Mv) {es:List Ent},Lvl es d->g6 (fY es) t=some d->Lvl (gW t ms es) d/\∀ m∈ms,∃ n,g6 (fY (gW t ms es)) m.2=some n/\n<=d+1
 |[],es,h,_=>⟨h,λm hm=>(nomatch hm)⟩
 |m::ms,es,h,ht=>by
  obtain⟨h1,n,hn,hle⟩:=h.add (m:=m) ht
  have hp:=pU (vE t es m)
  obtain⟨h2,h3⟩:=Lvl.scan ms h1 (mw hp ht)
  refine⟨h2,λm' hm'=>?_⟩
  rcases aE.mp hm' with rfl |z
  ·exact⟨n,mw (pU (pQ t ms (nF t es m'))) hn,hle⟩
  ·exact h3 m' z
theorem HP (h:rows.Pairwise λa b=>a.2<=b.2){i j:Nat}{a b:List Int×Int}(hij:i<j)(hi:rows[i]? = some a)(hj:rows[j]? = some b):a.2<=b.2:=by
 obtain⟨hj1,rfl⟩:=af.mp hj
 obtain⟨hi1,rfl⟩:=af.mp hi
 exact dH.mp h i j hi1 hj1 hij
theorem xI (nd:(es.map (·.1)).Nodup){j:Nat}{e:Ent}(h:es[j]? = some e):∃ d,(fY es)[j]? = some (e.1,d)/\g6 (fY es) e.1=some d:=by
 have hl:=(af.mp h).1
 have hj:(fY es)[j]? = some ((fY es)[j]'(by rw[jw];exact hl)):=ag _
 have e1:((fY es)[j]'(by rw[jw];exact hl)).1=e.1:=by
  have a:=cf (·[j]?) (ix es)
  rw[ah,ah,hj,h]at a
  exact bc a
 generalize (fY es)[j]'(by rw[jw];exact hl)=r at hj e1
 obtain⟨t,d⟩:=r
 have e1:t=e.1:=e1
 subst e1
 exact⟨d,hj,kT (r:=(e.1,d)) (by rw[ix];exact nd) (au hj)⟩
structure Sg (l:Ln)(es:List Ent)(i:Nat):Prop where
 mono:(fY es).Pairwise λa b=>a.2<=b.2
 here:∀ e d,es[i]? = some e->g6 (fY es) e.1=some d->∀ r∈fY es,r.2<=d+1
 done:∀ j e d,j<i->es[j]? = some e->g6 (fY es) e.1=some d->∀ m∈mvs l e.1,∃ n,g6 (fY es) m.2=some n/\n<=d+1
theorem Jp {l:Ln}{ns:List Int}(ok:gj l)(T:jf l ns)(hne:ns≠ []):∀ i,Sg l (fR l ns i) i
 | 0=>by
  have e0:fY (fR l ns 0) = [(ns,0)]:=rfl
  refine⟨by rw[e0];simp,λe d he hd r hr=>?_,λj e d hj=>absurd hj (Nat.not_lt_zero j)⟩
  rw[e0]at hd hr
  have:=jK hd
  have h1:=bH.mp hr
  have h2:=bH.mp this
  rw[h1]
  have h3:d=0:=by injection h2
  show(0:Int)<=d+1
  omega
 |i+1=>by
  have ih:=Jp ok T hne i
  have E:=j6 ok T hne i
  have E1:=j6 ok T hne (i+1)
  cases q:(fR l ns i)[i]? with
  |none=>
   have e1:fR l ns (i+1)=fR l ns i:=by rw[fR,q]
   have hl:(fR l ns i).length<=i:=by
    by_cases z:i<(fR l ns i).length
    ·rw[ag z]at q;cases q
    ·omega
   rw[e1]
   refine⟨ih.mono,λe d he=>?_,λj e d hj he=>?_⟩
   ·rw[bg (by omega)]at he;cases he
   ·have:=(af.mp he).1
    exact ih.done j e d (by omega) he
  |some e=>
   obtain⟨d,hd1,hd2⟩:=xI E.nd q
   have L0:Lvl (fR l ns i) d:=⟨ih.mono,ih.here e d q hd2⟩
   have e1:=nK q
   have pre:=pN l ns i
   obtain⟨L1,M1⟩:=Lvl.scan (mvs l e.1) L0 hd2
   rw[<-e1]at L1 M1
   have rp:=pU pre
   have O9:(fY (fR l ns (i+1)))[i]? = some (e.1,d):=by
    obtain⟨z,hz⟩:=rp
    rw[<-hz,aq (af.mp hd1).1]
    exact hd1
   refine⟨L1.mono,λe' d' he' hd' r hr=>?_,λj e' d' hj he' hd' m hm=>?_⟩
   ·obtain⟨d2,h1,h2⟩:=xI E1.nd he'
    rw[hd']at h2
    cases h2
    have a:=HP L1.mono (Nat.lt_succ_self i) O9 h1
    have b:=L1.top r hr
    have a:d<=d':=a
    omega
   ·by_cases hji:j<i
    ·have hlen:j<(fR l ns i).length:=by have:=(af.mp q).1;omega
     have he0:(fR l ns i)[j]? = some e':=by
      obtain⟨z,hz⟩:=pre
      rw[<-hz,aq hlen]at he'
      exact he'
     obtain⟨d3,_,h3⟩:=xI E.nd he0
     have:=mw rp h3
     rw[hd']at this
     cases this
     obtain⟨n,hn,hle⟩:=ih.done j e' d' hji he0 h3 m hm
     exact⟨n,mw rp hn,hle⟩
    ·have ej:j=i:=by omega
     subst ej
     have he0:(fR l ns (j+1))[j]? = some e:=by
      obtain⟨z,hz⟩:=pre
      rw[<-hz,aq (af.mp q).1]
      exact q
     rw[he0]at he'
     cases he'
     have:=mw rp hd2
     rw[hd']at this
     cases this
     exact M1 m hm
theorem yC {l:Ln}{ns:List Int}(ok:gj l)(T:jf l ns)(hne:ns≠ []){i:Nat}(hi:(fR l ns i).length=i):zX l ns (fY (fR l ns i)):=by
 have W:=Jp ok T hne i
 have E:=j6 ok T hne i
 refine⟨⟨by rw[ix];exact E.nd,λs hs=>?_⟩,?_,λr hr m hm=>?_⟩
 ·rw[ix]at hs
  obtain⟨e,he,rfl⟩:=ao.mp hs
  obtain⟨a,b,c⟩:=E.tr e he
  exact⟨b,c,a⟩
 ·have h0:fR l ns 0 <+:fR l ns i:=by have:=tV l ns 0 i;rwa [d9]at this
  exact mw (pU h0) (show g6 [(ns,0)] ns=some 0 from wY (rows:=[]) (by simp))
 ·obtain⟨j,hj,e⟩:=bF.mp hr
  have hjl:j<(fR l ns i).length:=by rw[<-jw];exact hj
  obtain⟨d,h1,h2⟩:=xI E.nd (ag hjl)
  rw[ag hj,e]at h1
  cases h1
  exact W.done j _ d (by omega) (ag hjl) h2 m hm
theorem tU {l:Ln}{ns:List Int}(ok:gj l)(T:jf l ns)(hne:ns≠ []){i:Nat}(hi:(fR l ns i).length=i):wt l ns ((fR l ns i).map (·.1)):=by
 have:=(vD.mp (yC ok T hne hi)).1
 rwa [ix]at this
end TL
namespace TL
open PySem PySem.Spec PyProof.Rows L2
variable {H:Hp}
theorem GC {J:It}{g:TG}{tb:TS}{D:Ends}{σ:L2.St}(n:Nat)(Pv:Nat->L2.St->Hp->Prop)(h0:Pv 0 σ H)(go:∀ i σ H,i<n->Pv i σ H->J.go i H)(st:∀ σ H,Pv n σ H->J.stop n H)
  (hs:∀ i x σ H H',i<n->Pv i σ H->J.yld i H x H'->g x σ H' λσ2 H2=>tb {D with nx:=Pv (i+1),ct:=Pv (i+1),bk:=D.nx} σ2 H2) (hd:∀ σ H,Pv n σ H->D.nx σ H):
  ∃ W:Nat->Nat->L2.St->Hp->Prop,(∃ m,W 0 m σ H)/\∀ i m σ H,W i m σ H->
   (J.stop i H/\D.nx σ H)\/(J.go i H/\∃ N:L2.St->Hp->Prop,(∀ σ' H',N σ' H'->∃ m',m'<m/\W (i+1) m' σ' H')/\∀ x H',J.yld i H x H'->g x σ H' λσ2 H2=>tb {D with nx:=N,ct:=N,bk:=D.nx} σ2 H2):=by
 refine⟨λi m σ H=>m=n-i/\i<=n/\Pv i σ H,⟨n,by simp,aI _,h0⟩,?_⟩
 rintro i m σ H ⟨rfl,hi,p⟩
 by_cases hlt:i<n
 ·exact .inr ⟨go i σ H hlt p,Pv (i+1),λσ' H' p'=>⟨n-(i+1),by omega,rfl,hlt,p'⟩,λx H' y=>hs i x σ H H' hlt p y⟩
 ·have e:i=n:=by omega
  subst e
  exact .inl ⟨st σ H p,hd σ H p⟩
theorem Dgs.rev {L T:Addr->List V->Prop} :∀ {ds:List PyData}{vs:List V},Dgs L T ds vs->Dgs L T ds.reverse vs.reverse
 |[],_,h=>by rw[gN.mp h];exact gN.mpr rfl
 |d::ds,_,h=>by
  obtain⟨v,r,rfl,h1,h2⟩:=gm.mp h
  rw[dt,dt]
  exact Dgs.append (Dgs.rev h2) (Dgs.one h1)
theorem FO {κ:Type} [DecidableEq κ] {kvs:List (κ×V)}{j:Nat}{k:κ}{v:V}(nd:(kvs.map (·.1)).Nodup)(h:kvs[j]? = some (k,v)):jM kvs k=some v:=by
 unfold jM
 obtain⟨hj,e⟩:=af.mp h
 have:kvs.find? (λkv=>decide (kv.1=k))=some (k,v):=by
  rw[List.find?_eq_some_iff_getElem]
  refine⟨by simp,j,hj,e,λi hi=>?_⟩
  have h1:(kvs[i]'(by omega)).1≠k:=λz=>by
   have h2:(kvs.map (·.1))[i]'(by rw[aa];omega)=(kvs.map (·.1))[j]'(by rw[aa];omega):=by
    rw[bY,bY,z,e]
   have:=(cE nd).mp h2
   omega
  simpa using h1
 rw[this];rfl
open TS
theorem j4 {n:Nat}(h:n<=10000000):n<sizeLine:=bL h (by decide)
variable {K:PySem.W.Frag}{kvs:List (List Key×V)}
theorem yI {t b:Addr}{xs:List V}{o:HO}(ht:H t=some (.dT kvs))(h:SqT K H b xs):SqT K (upd H t o) b xs:=by
 rcases h with(h |⟨o,h⟩)|h
 ·exact .inl (.inl (by rw[fK (gy h ht (by intro z;cases z))];exact h))
 ·exact .inl (.inr ⟨o,by rw[fK (gy h ht (by intro z;cases z))];exact h⟩)
 ·exact .inr h
noncomputable def mT (K:PySem.W.Frag)(H:Hp)(e:Ent)(v:V):Prop:=match e.2 with
 |none=>v = .non
 |some (t,k)=>∃ a b c,v = .ref a/\H a=some (.tup [.ref b,.ref c])/\H b=some (.tup (t.map V.int))/\SqT K H c [.str k.1,.int k.2]
variable {H':Hp}
theorem mT.same {e:Ent}{v:V}(h:mT K H e v)(s:fL H H'):mT K H' e v:=by
 unfold mT at h ⊢
 split at h
 ·exact h
 ·obtain⟨a,b,c,h1,h2,h3,h4⟩:=h
  exact⟨a,b,c,h1,s _ _ h2,s _ _ h3,gx s h4⟩
variable {p:Addr}{vs:List V}
theorem mT.Lb {e:Ent}{v:V}{o:HO}(h:mT K H e v)(hp:H p=some (.lst vs)):mT K (upd H p o) e v:=by
 unfold mT at h ⊢
 split at h
 ·exact h
 ·obtain⟨a,b,c,h1,h2,h3,h4⟩:=h
  exact⟨a,b,c,h1,by rw[fK (gy h2 hp (by intro z;cases z))];exact h2,by rw[fK (gy h3 hp (by intro z;cases z))];exact h3,lX hp h4⟩
theorem mT.Jr {e:Ent}{v:V}{o:HO}(h:mT K H e v)(hp:H p=some (.dT kvs)):mT K (upd H p o) e v:=by
 unfold mT at h ⊢
 split at h
 ·exact h
 ·obtain⟨a,b,c,h1,h2,h3,h4⟩:=h
  exact⟨a,b,c,h1,by rw[fK (gy h2 hp (by intro z;cases z))];exact h2,by rw[fK (gy h3 hp (by intro z;cases z))];exact h3,yI hp h4⟩
structure mU (K:PySem.W.Frag)(H:Hp)(d:Addr)(es:List Ent)(vs:List V):Prop where
 at_:H d=some (.dT ((es.zip vs).map λp=>(kyI p.1.1,p.2)))
 len:vs.length=es.length
 each:∀ (i:Nat) e v,es[i]? = some e->vs[i]? = some v->mT K H e v
variable {d:Addr}{es:List Ent}
theorem mU.same (h:mU K H d es vs)(s:fL H H'):mU K H' d es vs:=
 ⟨s _ _ h.at_,h.len,λi e v h1 h2=>(h.each i e v h1 h2).same s⟩
theorem uZ (hl:vs.length=es.length):((es.zip vs).map λp=>(kyI p.1.1,p.2)).map (·.1)=es.map λe=>kyI e.1:=by
 rw[bo]
 refine ef λi=>?_
 rw[ah,ah]
 by_cases hi:i<es.length
 ·rw[ag (by rw[bV];omega),ag hi,List.getElem_zip];rfl
 ·rw[bg (by rw[bV];omega),bg (by omega)];rfl
theorem Ce {κ:Type} [DecidableEq κ] {kvs:List (κ×V)}{k:κ} :(jM kvs k).isSome=decide (k∈kvs.map (·.1)):=by
 rw[<-qJ,bN,List.any_eq_true,cw,ao]
 constructor
 ·rintro⟨p,h1,h2⟩;exact⟨p,h1,by simpa using h2⟩
 ·rintro⟨p,h1,h2⟩;exact⟨p,h1,by simpa using h2⟩
theorem mU.mem (h:mU K H d es vs)(t:List Int):(jM ((es.zip vs).map λp=>(kyI p.1.1,p.2)) (kyI t)).isSome=decide (t∈es.map (·.1)):=by
 rw[Ce,uZ h.len]
 congr 1
 refine propext ⟨λz=>?_,λz=>?_⟩
 ·obtain⟨e,h1,h2⟩:=ao.mp z
  exact ao.mpr ⟨e,h1,oB h2⟩
 ·obtain⟨e,h1,h2⟩:=ao.mp z
  exact ao.mpr ⟨e,h1,by rw[h2]⟩
structure Ord (H:Hp)(p:Addr)(as:List Addr)(es:List Ent):Prop where
 at_:H p=some (.lst (as.map V.ref))
 len:as.length=es.length
 each:∀ (i:Nat) b e,as[i]? = some b->es[i]? = some e->H b=some (.tup (e.1.map V.int))
variable {as:List Addr}
theorem Ord.same (h:Ord H p as es)(s:fL H H'):Ord H' p as es:=
 ⟨s _ _ h.at_,h.len,λi b e h1 h2=>s _ _ (h.each i b e h1 h2)⟩
theorem Cv {st tp ta tm:Addr}{t t':List Int}{k:Str×Int}(hs:mU K H d es vs)(ho:Ord H p as es)(hst:H st=some (.tup (t'.map V.int)))
  (htp:H tp=some (.tup [.ref ta,.ref tm])) (hta:H ta=some (.tup (t.map V.int))) (htm:SqT K H tm [.str k.1,.int k.2]) (hn:t'∉es.map (·.1)):
  mU K (upd (upd H d (.dT (putK ((es.zip vs).map λp=>(kyI p.1.1,p.2)) (kyI t') (.ref tp)))) p (.lst (as.map V.ref ++ [V.ref st]))) d (es ++ [(t',some (t,k))]) (vs ++ [.ref tp])/\
  Ord (upd (upd H d (.dT (putK ((es.zip vs).map λp=>(kyI p.1.1,p.2)) (kyI t') (.ref tp)))) p (.lst (as.map V.ref ++ [V.ref st]))) p (as ++ [st]) (es ++ [(t',some (t,k))]):=by
 have hd:=hs.at_
 have hp:=ho.at_
 have dp:d≠p:=gy hd hp (by intro z;cases z)
 have hv:jM ((es.zip vs).map λp=>(kyI p.1.1,p.2)) (kyI t')=none:=by
  have:=hs.mem t'
  rw[aW hn]at this
  exact Option.isNone_iff_eq_none.mp (by rw[<-Option.not_isSome,this];rfl)
 have e1:putK ((es.zip vs).map λp=>(kyI p.1.1,p.2)) (kyI t') (.ref tp)=((es ++ [(t',some (t,k))]).zip (vs ++ [V.ref tp])).map λp=>(kyI p.1.1,p.2):=by
  rw[oY _ hv,List.zip_append hs.len.symm,av];rfl
 have hp1:upd H d (.dT (putK ((es.zip vs).map λp=>(kyI p.1.1,p.2)) (kyI t') (.ref tp))) p=some (.lst (as.map V.ref)):=by rw[fK (bI dp)];exact hp
 have ht:∀ b xs,H b=some (.tup xs)->upd (upd H d (.dT (putK ((es.zip vs).map λp=>(kyI p.1.1,p.2)) (kyI t') (.ref tp)))) p (.lst (as.map V.ref ++ [V.ref st])) b=some (.tup xs):=λb xs q=>by
  rw[fK (gy q hp (by intro z;cases z)),fK (gy q hd (by intro z;cases z))];exact q
 refine⟨⟨by rw[fK dp,fE,e1],by rw[ak,ak,hs.len];rfl,λi e v he hv=>?_⟩,⟨by rw[fE,av];rfl,by rw[ak,ak,ho.len];rfl,λi b e hb he=>?_⟩⟩
 ·by_cases hi:i<es.length
  ·rw[aq hi]at he
   rw[aq (by rw[hs.len];exact hi)]at hv
   exact((hs.each i e v he hv).Jr hd).Lb hp1
  ·have hi2:i=es.length:=by
    have:=(af.mp he).1
    rw[ak,aP]at this
    omega
   rw[hi2,ay (ar _),bu]at he
   rw[hi2,<-hs.len,ay (ar _),bu]at hv
   cases he
   cases hv
   exact⟨tp,ta,tm,rfl,ht _ _ htp,ht _ _ hta,lX hp1 (yI hd htm)⟩
 ·by_cases hi:i<es.length
  ·rw[aq hi]at he
   rw[aq (by rw[ho.len];exact hi)]at hb
   exact ht _ _ (ho.each i b e hb he)
  ·have hi2:i=es.length:=by
    have:=(af.mp he).1
    rw[ak,aP]at this
    omega
   rw[hi2,ay (ar _),bu]at he
   rw[hi2,<-ho.len,ay (ar _),bu]at hb
   cases he
   cases hb
   exact ht _ _ hst
theorem EV {a:Addr}{xs:List V}(hp:H p=some (.dT kvs))(h:SqT K H a xs):SqT K (hid p H) a xs:=by
 rcases h with(h |⟨o,h⟩)|h
 ·exact .inl (.inl (by rw[gS (gy h hp (by intro z;cases z))];exact h))
 ·exact .inl (.inr ⟨o,by rw[gS (gy h hp (by intro z;cases z))];exact h⟩)
 ·exact .inr h
noncomputable abbrev zz (d p:Addr)(H:Hp):Hp:=hid p (hid d H)
theorem vk {a:Addr}{xs:List V}(hd:H d=some (.dT kvs))(hp:H p=some (.lst vs))(h:SqT K H a xs):SqT K (zz d p H) a xs:=by
 have dp:p≠d:=gy hp hd (by intro z;cases z)
 exact tQ (vs:=vs) (by rw[gS dp];exact hp) (EV hd h)
theorem ni {a:Addr}(h1:a≠d)(h2:a≠p):zz d p H a=H a:=by show hid p (hid d H) a=H a;rw[gS h2,gS h1]
theorem vj {o o':HO}(s:fL (zz d p H) H'):fL (zz d p H) (upd (upd H' d o) p o'):=λb u h=>by
 by_cases e1:b=p
 ·subst e1;have h:hid b (hid d H) b=some u:=h;rw[kB]at h;cases h
 ·have h':hid p (hid d H) b=some u:=h
  rw[gS e1]at h'
  by_cases e2:b=d
  ·subst e2;rw[kB]at h';cases h'
  ·rw[fK e1,fK e2];exact s _ _ h
structure og (H H':Hp)(p:Addr)(bs:List Addr)(ts:List (List Int)):Prop where
 same:fL H H'
 new:H p=none
 at_:H' p=some (.lst (bs.map V.ref))
 len:bs.length=ts.length
 each:∀ (i:Nat) b t,bs[i]? = some b->ts[i]? = some t->H b=none/\b≠p/\H' b=some (.lst (t.map V.int))
 nd:bs.Nodup
variable {H0:Hp}
theorem og.pre {bs:List Addr}{ts:List (List Int)}(s:fL H0 H)(h:og H H' p bs ts):og H0 H' p bs ts:=
 ⟨s.trans h.same,fL.free s h.new,h.at_,h.len,λi b t h1 h2=>⟨fL.free s (h.each i b t h1 h2).1,(h.each i b t h1 h2).2⟩,h.nd⟩
structure yw (H:Hp)(p:Addr)(as:List Addr)(es:List Ent):Prop where
 at_:H p=some (.lst (as.map V.ref))
 len:as.length=es.length
 each:∀ (i:Nat) b e,as[i]? = some b->es[i]? = some e->b≠p/\H b=some (.lst (e.1.map V.int))
theorem yw.same (h:yw H p as es)(s:fL H H'):yw H' p as es:=
 ⟨s _ _ h.at_,h.len,λi b e h1 h2=>⟨(h.each i b e h1 h2).1,s _ _ (h.each i b e h1 h2).2⟩⟩
theorem yw.get (h:yw H p as es){i:Nat}{e:Ent}(he:es[i]? = some e):∃ b,as[i]? = some b/\b≠p/\H b=some (.lst (e.1.map V.int)):=by
 have hi:i<as.length:=by rw[h.len];exact(af.mp he).1
 exact⟨as[i],ag hi,h.each i _ e (ag hi) he⟩
theorem Ds {l:Ln}{ns:List Int}{i:Nat}(hi:(fR l ns i).length=i)(j:Nat):(fR l ns j).length<=i:=by
 rcases Nat.le_total i j with z |z
 ·obtain⟨k,rfl⟩:=Nat.exists_eq_add_of_le z
  rw[v7 (by omega) k];omega
 ·obtain⟨k,hk⟩:=Nat.exists_eq_add_of_le z
  have:=(tV l ns j k).length_le
  rw[<-hk]at this
  omega
theorem Ht {α β:Type}{xs:List α}{ys:List β}{i:Nat}{x:α}{y:β}(h1:xs[i]? = some x)(h2:ys[i]? = some y):(xs.zip ys)[i]? = some (x,y):=cI.mpr ⟨h1,h2⟩
theorem Gp (nd:(es.map (·.1)).Nodup):(es.map λe=>kyI e.1).Nodup:=by
 have:(es.map λe=>kyI e.1)=(es.map (·.1)).map kyI:=by rw[bo];rfl
 rw[this]
 unfold List.Nodup at nd ⊢
 rw[cK]
 exact nd.imp λh z=>h (oB z)
theorem mU.get {us:List V}(h:mU K H d es us)(nd:(es.map (·.1)).Nodup){j:Nat}{e:Ent}{v:V}(he:es[j]? = some e)(hv:us[j]? = some v):jM ((es.zip us).map λp=>(kyI p.1.1,p.2)) (kyI e.1)=some v:=by
 refine FO (j:=j) ?_ ?_
 ·rw[uZ h.len];exact Gp nd
 ·rw[ah,Ht he hv];rfl
theorem Dv {a b:Addr}{o o':HO}(h:a≠b):upd (upd H a o) b o'=upd (upd H b o') a o:=by
 funext c
 by_cases e1:c=a
 ·subst e1;rw[fK h,fE,fE]
 ·by_cases e2:c=b
  ·subst e2;rw[fE,fK e1,fE]
  ·rw[fK e2,fK e1,fK e1,fK e2]
theorem GW {σ:L2.St}{te:TE}{P1:VK}{P0:Hp->Prop}(h:te σ H P1):Ag σ H (λb H3=>if b=true then te σ H3 P1 else P0 H3):=nC (A:=te σ H P1) (B:=P0 H) h
noncomputable def mV (H0 H:Hp)(r:List Int×Int)(v:V):Prop:=∃ ad a,v = .ref ad/\H ad=some (.tup [.ref a,.int r.2])/\H a=some (.lst (r.1.map V.int))/\H0 a=none
theorem mV.mono (r:List Int×Int)(v:V)(s:fL H H')(h:mV H0 H r v):mV H0 H' r v:=h.imp λ_ h=>h.imp λ_ h=>⟨h.1,s _ _ h.2.1,s _ _ h.2.2.1,h.2.2.2⟩
theorem mV.pre {H00:Hp}(s:fL H00 H0)(r:List Int×Int)(v:V)(h:mV H0 H r v):mV H00 H r v:=h.imp λ_ h=>h.imp λ_ h=>⟨h.1,h.2.1,h.2.2.1,fL.free s h.2.2.2⟩
theorem mV.Lc {n:Addr}{o:Obj}{x:HO}{y:HO}(r:List Int×Int)(v:V)(hn:H n=some (.frz o x))(h:mV H0 H r v):mV H0 (upd H n y) r v:=by
 obtain⟨ad,a,e,h1,h2,h3⟩:=h
 exact⟨ad,a,e,by rw[fK (gy h1 hn (by intro z;cases z))];exact h1,by rw[fK (gy h2 hn (by intro z;cases z))];exact h2,h3⟩
structure tu (H0 H:Hp)(q:Addr)(rows:Rows)(vs:List V):Prop where
 at_:H q=some (.lst vs)
 new:H0 q=none
 pw:Pw (mV H0 (hid q H)) rows vs
theorem tu.same {q:Addr}{rows:Rows}(h:tu H0 H q rows vs)(s:fL H H'):tu H0 H' q rows vs:=⟨s _ _ h.at_,h.new,h.pw.imp λr v=>mV.mono r v (pj s)⟩
theorem tu.pre {H00:Hp}{q:Addr}{rows:Rows}(h:tu H0 H q rows vs)(s:fL H00 H0):tu H00 H q rows vs:=⟨h.at_,fL.free s h.new,h.pw.imp (mV.pre s)⟩
end TL
namespace TL
open PySem PySem.Spec PyProof.Rows L2
variable {a:Addr}{Q:Bool->Shared->Prop}
section
variable {prog:Program}{w:World}{K:Type} [DecidableEq K] (knd:PySem.KeyKind prog w K)
noncomputable def iy (h:Heap)(x:List K×K)(a:Addr):Prop:=∃ o n b v,h.get? a=some o/\o.cls = .type "tuple" /\o.data = .seq #[.ref b,v] n/\IsTupleKey knd h x.1 b/\knd.is x.2 v=true
variable {knd}
theorem iy.typeIs {s:Shared}{x:List K×K}(h:iy knd s.heap x a):s.TypeIs (.ref a) "tuple" :=let ⟨o,_,_,_,ho,hc,_⟩:=h;⟨o,ho,hc⟩
theorem iy.inj {h:Heap}{x y:List K×K}(hx:iy knd h x a)(hy:iy knd h y a):x=y:=by
 obtain⟨o,n,b,v,h1,_,h3,h4,h5⟩:=hx
 obtain⟨o',n',b',v',g1,_,g3,g4,g5⟩:=hy
 obtain rfl:o=o':=bc (h1.symm.trans g1)
 rw[h3]at g3
 injection g3 with e _
 have e1:Value.ref b=Value.ref b'/\v=v':=by simpa using e
 obtain⟨e1,rfl⟩:=e1
 injection e1 with e1
 subst e1
 exact fe (h4.inj g4) (knd.inj _ _ _ h5 g5)
theorem iy.keeps {h h':Heap}{x:List K×K}{d:Addr}{o:Obj}{es ep}(k:iy knd h x a)(ho:h.get? d=some o)(hd:o.data = .dict es ep)(hs:Heap.SameBut d h h'):iy knd h' x a:=by
 obtain⟨o',n,b,v,h1,h2,h3,h4,h5⟩:=k
 have hne:a≠d:=by
  rintro rfl
  obtain rfl:o'=o:=bc (h1.symm.trans ho)
  rw[hd]at h3;exact nomatch h3
 exact⟨o',n,b,v,(hs.2 a hne).trans h1,h2,h3,h4.keeps ho hd hs,h5⟩
noncomputable def uG (knd:PySem.KeyKind prog w K)(x:List K×K):Int:=reduceHash (Builtin.Tuple.tupleHashOf [tupleKeyHash knd x.1,knd.hash x.2])
variable {A:Around}{E:Value->Shared->Prop}{s:Shared}
theorem in1_units (A:Around):A.in1.units<=A.units+1:=by first |exact ar _ |(simp[Around.in1];done)|omega
theorem qE {x:List K×K}{Q:Int->Shared->Prop}(hu:A.units+1<cLine)(hk:iy knd s.heap x a)(h:Q (uG knd x) {s with toks:=s.toks+(x.1.length+3)}):
  wpAny (model prog w) A (pyHash (.ref a)) Q E s:=by
 have hT:=hk.typeIs
 obtain⟨o,n,b,v,ho,_,hd,hb,hv⟩:=hk
 unfold pyHash
 first |unfold pyHashByItsType |skip
 first |refine ae (wpAny_cRoomFor_or (.inr (by omega)) ?_)|skip
 refine ae (eg hT eM.lookup ?_)
 show wpAny _ _ (if(some (Value.builtin "tuple.__hash__")==some Value.none)=true then _ else _) Q E s
 rw[aG (by rw[beq_builtin_none];exact aB)]
 refine ae (eg hT eM.lookup ?_)
 show wpAny _ _ (callSpecialIfBoundUnlessNone? (.ref a) "__hash__" _ >>= _) Q E s
 refine ae (wpAny_callSpecialIfBoundUnlessNone?_slot hT eM (bR eM hT F.entry_tuple_hash ?_ (F.args_tuple_hash_1 _)))
 show wpAny _ _ (Builtin.Tuple.tupleItemsOf (.ref a) >>= _) _ _ s
 refine ae (wpAny_tupleItemsOf ho hd ?_)
 refine ae ?_
 rw[<-dU]
 show wpAny _ _ (forIn [Value.ref b,v] _ _) _ _ s
 rw[cJ]
 refine ae ?_
 refine ae (wpAny_pyHash_tuple (bL (in1_units A) hu) hb ?_)
 refine aj ?_
 show wpAny _ _ (forIn [v] _ _) _ _ _
 rw[cJ]
 refine ae ?_
 refine ae (knd.pyHash hv ?_)
 refine aj ?_
 show wpAny _ _ (forIn [] _ _) _ _ _
 rw[List.forIn_nil]
 refine aj ?_
 show wpAny _ _ (retInt (Builtin.Tuple.tupleHashOf [tupleKeyHash knd x.1,knd.hash x.2])) _ _ _
 refine wpAny_ret_mkInt ?_
 show wpAny _ _ (if(decide (-(2:Int) ^ 63<=Builtin.Tuple.tupleHashOf [tupleKeyHash knd x.1,knd.hash x.2])&&decide (Builtin.Tuple.tupleHashOf [tupleKeyHash knd x.1,knd.hash x.2]<2 ^ 63))=true then _ else _) Q E _
 unfold uG reduceHash at h
 by_cases hr:(decide (-(2:Int) ^ 63<=Builtin.Tuple.tupleHashOf [tupleKeyHash knd x.1,knd.hash x.2])&&decide (Builtin.Tuple.tupleHashOf [tupleKeyHash knd x.1,knd.hash x.2]<2 ^ 63))=true
 ·rw[aQ hr]
  rw[aQ hr]at h
  exact aj (by simpa [Nat.add_assoc]using h)
 ·rw[aG hr]
  rw[aG hr]at h
  exact ae (wpAny_rule (aj (by simpa [Nat.add_assoc]using h)))
theorem xR {x y:List K×K}{b:Addr}{P:Fin->Shared->Prop}(hu:A.units<cLine)(hx:iy knd s.heap x a)(hy:iy knd s.heap y b)(h:P (.done (.ret (.bool (decide (x=y))))) s):
  wpAny (model prog w) A (Builtin.«tuple.__eq__» ⟨[.ref a,.ref b],[]⟩) P E s:=by
 have hTb:=hy.typeIs
 obtain⟨oa,na,ba,va,hoa,_,hda,hia,hva⟩:=hx
 obtain⟨ob,nb,bb,vb,hob,_,hdb,hib,hvb⟩:=hy
 show wpAny _ _ (isInstance (.ref b) (.type "tuple") >>= _) _ _ s
 refine ae (eY hTb isSubtype_tuple_tuple ?_)
 simp only[cc,aT,bG]
 refine ae (wpAny_tupleItemsOf hoa hda ?_)
 refine ae (wpAny_tupleItemsOf hob hdb ?_)
 refine ae ?_
 show wpAny _ _ (forIn [(Value.ref ba,Value.ref bb),(va,vb)] _ _) _ _ s
 rw[cJ]
 refine ae ?_
 refine ae (wpAny_eqBool_tuple hu hia hib ?_)
 by_cases h1:x.1=y.1
 ·rw[bB h1]
  simp only[cc,aT,bG]
  refine aj ?_
  show wpAny _ _ (forIn [(va,vb)] _ _) _ _ s
  rw[cJ]
  refine ae ?_
  refine ae (knd.eqBool (a:=x.2) (b:=y.2) hva hvb ?_)
  by_cases h2:x.2=y.2
  ·rw[bB h2]
   simp only[cc,aT,bG]
   refine aj ?_
   show wpAny _ _ (forIn [] _ _) _ _ s
   rw[List.forIn_nil]
   refine aj ?_
   have e:x=y:=fe h1 h2
   rw[bB e]at h
   exact aj h
  ·rw[aW h2]
   simp only[Bool.not_false,cV]
   have hf:¬x=y:=λe=>h2 (by rw[e])
   rw[aW hf]at h
   exact ae (aj (aj (aj (aj h))))
 ·rw[aW h1]
  simp only[Bool.not_false,cV]
  have hf:¬x=y:=λe=>h1 (by rw[e])
  rw[aW hf]at h
  exact ae (aj (aj (aj (aj h))))
theorem qF {x y:List K×K}{b:Addr}(hu:A.units+1<cLine)(hx:iy knd s.heap x a)(hy:iy knd s.heap y b)(h:Q (decide (x=y)) s):
  wpAny (model prog w) A (eqBool (.ref a) (.ref b)) Q E s:=by
 unfold eqBool
 try with_reducible refine dD ?_
 show wpAny _ _ (if(Value.ref a==Value.ref b)=true then _ else _) Q E s
 by_cases hab:(Value.ref a==Value.ref b)=true
 ·rw[aQ hab]
  have e:a=b:=by have:=eq_of_beq hab;injection this
  subst e
  obtain rfl:=hx.inj hy
  exact ae (wpAny_rule (aj (by simpa using h)))
 ·rw[aG hab]
  exact ae (wpAny_richCompare_same_room (op:=.Eq) hx.typeIs hy.typeIs F.slot_tuple_eq
   (bR F.slot_tuple_eq hx.typeIs F.entry_tuple_eq (xR (bL (in1_units A) hu) hx hy ⟨_,rfl,(λe=>nomatch e),cS h⟩) (F.args_tuple_eq_2 _ _)) (by omega))
theorem yV (m:Nat){ks:List K}(hk:IsTupleKey knd s.heap ks a)(h:Q true s):wpAny (model prog w) A (eqIsQuiet (m+1) (.ref a)) Q E s:=by
 have hT:=hk.typeIs
 obtain⟨o,items,n,ho,_,hd,hi⟩:=hk
 unfold eqIsQuiet
 refine ae (eg hT F.slot_tuple_eq.lookup ?_)
 show wpAny _ _ (isInstance (.ref a) (.type "tuple") >>= _) _ _ s
 refine ae (eY hT isSubtype_tuple_tuple ?_)
 simp only[cc,aT,bG]
 refine ae (wpAny_seqItems ho hd ?_)
 refine ae ?_
 show wpAny _ _ (forIn items _ _) _ _ s
 rw[<-dU]
 refine wpAny_forIn_list _ (λrest r s'=>r.1=none/\s'=s/\∀ v∈rest,carriedByValue v=true) _ ?_ ?_ _ _ ⟨rfl,rfl,hi.byValue⟩
 ·rintro v rest r s' ⟨hr,rfl,mP⟩
  rw[eqIsQuiet_byValue _ (mP v aC)]
  refine ae (aj ?_)
  simp only[cc,aT,bG]
  exact aj ⟨rfl,rfl,λu hu'=>mP u (aw _ hu')⟩
 ·rintro⟨r1,r2⟩ s' ⟨hr,rfl,_⟩
  simp only at hr
  subst hr
  exact aj h
theorem Ap (m:Nat){x:List K×K}(hk:iy knd s.heap x a)(h:Q true s):wpAny (model prog w) A (eqIsQuiet (m+2) (.ref a)) Q E s:=by
 have hT:=hk.typeIs
 obtain⟨o,n,b,v,ho,_,hd,hb,hv⟩:=hk
 unfold eqIsQuiet
 refine ae (eg hT F.slot_tuple_eq.lookup ?_)
 show wpAny _ _ (isInstance (.ref a) (.type "tuple") >>= _) _ _ s
 refine ae (eY hT isSubtype_tuple_tuple ?_)
 simp only[cc,aT,bG]
 refine ae (wpAny_seqItems ho hd ?_)
 refine ae ?_
 show wpAny _ _ (forIn #[Value.ref b,v] _ _) _ _ s
 rw[<-dU]
 show wpAny _ _ (forIn [Value.ref b,v] _ _) _ _ s
 rw[cJ]
 refine ae ?_
 refine ae (yV m hb ?_)
 simp only[cc,aT,bG]
 refine aj ?_
 show wpAny _ _ (forIn [v] _ _) _ _ s
 rw[cJ]
 refine ae ?_
 rw[eqIsQuiet_byValue _ (knd.byValue _ _ hv)]
 refine ae (aj ?_)
 simp only[cc,aT,bG]
 refine aj ?_
 show wpAny _ _ (forIn [] _ _) _ _ s
 rw[List.forIn_nil]
 exact aj (aj h)
end
noncomputable def o6 {prog:Program}{w:World}{K:Type} [DecidableEq K] (knd:PySem.KeyKind prog w K):HeapKind prog w (List K×K) where
 is:=iy knd
 hash:=uG knd
 draws:=λx=>x.1.length+3
 room:=λA=>A.units+1<cLine
 inj:=λhx hy=>hx.inj hy
 keeps:=λx ho hd hs=>x.keeps ho hd hs
 pyHash:=λhu hk h=>qE hu hk h
 eqBool:=λhu hx hy h=>qF hu hx hy h
 quiet:=λhk h=>Ap 6 hk h
noncomputable abbrev SK:=List Key×Key
noncomputable abbrev KvN:=List (SK×Addr×V)
noncomputable abbrev PN:KvN->List (SK×Addr×Value)->Prop:=Paired λp q=>p.1=q.1/\p.2.1=q.2.1/\RelV p.2.2 q.2.2
noncomputable def D0 (P:Program)(w:World)(a:Addr)(kvs:KvN)(h:Heap):Prop:=kvs.length<=sizeLine/\(a==sysModules)=false/\∃ xs:List (SK×Addr×Value),PN kvs xs/\
 ∃ o es ep,h.get? a=some o/\o.ExactDict/\o.data = .dict es ep/\es.toList=xs.map (entryOfKey (o6 (gu P w)))/\(xs.map (·.1)).Nodup
noncomputable def nD (P:Program)(w:World)(a:Addr)(kvs:KvN):HO:=.ext (D0 P w a kvs)
variable {P:Program}{w:World}{kvs:KvN}
theorem D0.mono {h1 h2:Heap}(p:D0 P w a kvs h1)(e:∀ o,h1.get? a=some o->h2.get? a=some o):D0 P w a kvs h2:=by
 obtain⟨p1,p2,xs,p3,o,es,ep,p4,p5⟩:=p
 exact⟨p1,p2,xs,p3,o,es,ep,e _ p4,p5⟩
variable {H:Hp}
theorem BB {h:Heap}(p:D0 P w a kvs h):iR P w H h a (nD P w a kvs):=
 ⟨p,(by obtain⟨_,_,_,_,o,_,_,e,_⟩:=p;exact⟨o,e⟩),λh1 h2 q e=>q.mono e⟩
noncomputable def jP (H:Hp)(c:Addr)(k:SK):Prop:=∃ b,H c=some (.tup [.ref b,kV k.2])/\H b=some (.tup (k.1.map kV))
variable {k:SK}
theorem jP.same {H':Hp}{c:Addr}(h:jP H c k)(s:fL H H'):jP H' c k:=h.imp λb h=>⟨s _ _ h.1,s _ _ h.2⟩
theorem jP.kH {H':Hp}{c:Addr}(h:jP H c k)(s:∀ b ys,H b=some (.tup ys)->H' b=some (.tup ys)):jP H' c k:=h.imp λb h=>⟨s _ _ h.1,s _ _ h.2⟩
structure DN (P:Program)(w:World)(H:Hp)(a:Addr)(kvs:KvN):Prop where
 at_:H a=some (nD P w a kvs)
 keys:∀ p∈kvs,jP H p.2.1 p.1
theorem DN.same {H':Hp}(h:DN P w H a kvs)(s:fL H H'):DN P w H' a kvs:=⟨s _ _ h.at_,λp hp=>(h.keys p hp).same s⟩
noncomputable def valN (kvs:KvN)(k:SK):Option V:=(kvs.find? λp=>decide (p.1=k)).map (·.2.2)
noncomputable def putN (kvs:KvN)(k:SK)(c:Addr)(v:V):KvN:=if(valN kvs k).isSome then kvs.map (λp=>if p.1=k then(p.1,p.2.1,v)else p)else kvs ++ [(k,c,v)]
theorem jF {p:SK×Addr×V}{r:KvN}(e:p.1=k):valN (p::r) k=some p.2.2:=by simp[valN,cq,e]
theorem jG {p:SK×Addr×V}{r:KvN}(e:¬p.1=k):valN (p::r) k=valN r k:=by simp[valN,cq,e]
theorem tZ (k j:SK)(y:V):∀ kvs:KvN,valN (kvs.map λp=>if p.1=k then(p.1,p.2.1,y)else p) j=(valN kvs j).map λx=>if j=k then y else x
 |[]=>rfl
 |p::r=>by
  rw[aZ]
  by_cases e:p.1=k
  ·rw[aQ e]
   by_cases f:p.1=j
   ·rw[jF (p:=(p.1,p.2.1,y)) f,jF f,eO,aQ (f.symm.trans e)]
   ·rw[jG (p:=(p.1,p.2.1,y)) f,jG f];exact tZ k j y r
  ·rw[aG e]
   by_cases f:p.1=j
   ·rw[jF f,jF f,eO,aG (λz=>e (f.trans z))]
   ·rw[jG f,jG f];exact tZ k j y r
theorem wc (k j:SK)(c:Addr)(y:V):∀ kvs:KvN,valN kvs k=none->valN (kvs ++ [(k,c,y)]) j=if j=k then some y else valN kvs j
 |[],_=>by
  rw[List.nil_append]
  by_cases f:j=k
  ·rw[aQ f,jF (p:=(k,c,y)) f.symm]
  ·rw[aG f,jG (p:=(k,c,y)) (λz=>f z.symm)]
 |p::r,h=>by
  have hp:¬p.1=k:=λe=>by rw[jF e]at h;cases h
  rw[jG hp]at h
  rw[List.cons_append]
  by_cases f:p.1=j
  ·rw[jF f,jF f,aG (λz=>hp (f.trans z))]
  ·rw[jG f,jG f];exact wc k j c y r h
theorem yE (kvs:KvN)(k j:SK)(c:Addr)(y:V):valN (putN kvs k c y) j=if j=k then some y else valN kvs j:=by
 unfold putN
 split
 ·rename_i h
  rw[tZ]
  by_cases f:j=k
  ·subst f
   obtain⟨v,hv⟩:=fv.mp h
   rw[hv,aQ rfl,eO,aQ rfl]
  ·rw[aG f]
   cases valN kvs j with
   |none=>rfl
   |some v=>rw[eO,aG f]
 ·rename_i h
  exact wc k j c y kvs (by simpa using h)
theorem uC (kvs:KvN)(k:SK)(c:Addr)(v:V):(putN kvs k c v).length<=kvs.length+1:=by
 unfold putN
 split
 ·rw[aa];omega
 ·rw[ak,aP];exact ar _
variable {xs:List (SK×Addr×Value)}
theorem PN.val (r:PN kvs xs)(k:SK):rS (valN kvs k) ((atKey xs k).map (·.2)):=by
 induction r with
 |nil=>exact True.intro
 |@cons p q ps qs h t ih=>
  obtain⟨h1,_,h2⟩:=h
  by_cases e:p.1=k
  ·have e':q.1=k:=h1.symm.trans e
   have b:atKey (q::qs) k=some q.2:=by simp[atKey,cq,e']
   rw[jF e,b];exact h2
  ·have e':¬q.1=k:=λz=>e (h1.trans z)
   have b:atKey (q::qs) k=atKey qs k:=by simp[atKey,cq,e']
   rw[jG e,b];exact ih
theorem PN.DT (r:PN kvs xs)(k:SK){y:V}{u:Value}(ry:RelV y u):PN (kvs.map λp=>if p.1=k then(p.1,p.2.1,y)else p) (xs.map (putAt k u)):=by
 induction r with
 |nil=>exact .nil
 |@cons p q ps qs h t ih=>
  rw[aZ,aZ]
  refine .cons ?_ ih
  obtain⟨h1,h2,h3⟩:=h
  unfold putAt
  by_cases e:p.1=k
  ·rw[aQ e,aQ (h1.symm.trans e)];exact⟨h1,h2,ry⟩
  ·rw[aG e,aG (λz=>e (h1.trans z))];exact⟨h1,h2,h3⟩
theorem PN.put (r:PN kvs xs)(k:SK)(c:Addr){y:V}{u:Value}(ry:RelV y u):PN (putN kvs k c y) (storedH xs k c u):=by
 have e:(valN kvs k).isSome=(atKey xs k).isSome:=by rw[(r.val k).nX,fq]
 unfold putN storedH
 rw[e]
 by_cases q:(atKey xs k).isSome=true
 ·rw[aQ q,aQ q];exact r.DT k ry
 ·rw[aG q,aG q];exact Paired.snoc r ⟨rfl,rfl,ry⟩
section
variable {P:Program}{w:World}{H:Hp}{h:Heap}{a c:Addr}{kvs:KvN}{k:SK}
theorem rz (ok:HOk P w H h)(e:jP H c k):(o6 (gu P w)).is h k c:=by
 obtain⟨b,e1,e2⟩:=e
 obtain⟨_,its,r,o,h1,h2,n,h3⟩:=(show iR P w H h c (.tup [.ref b,kV k.2]) from ok c _ e1)
 cases r with
 |cons r1 r2=>
  cases r2 with
  |cons r3 r4=>
   cases r4
   cases r1
   exact⟨o,n,b,_,h1,h2,h3,qA ok e2,oM r3⟩
theorem zH (ok:HOk P w H h)(e:DN P w H a kvs):kvs.length<=sizeLine/\(a==sysModules)=false/\∃ xs,PN kvs xs/\h.DictOfH (o6 (gu P w)) a xs:=by
 obtain⟨⟨z,y,xs,r,o,es,ep,h1,h2,h3,h4,h5⟩,_,_⟩:=(show iR P w H h a (nD P w a kvs) from ok a _ e.at_)
 refine⟨z,y,xs,r,o,es,ep,h1,h2,h3,h4,λx hx=>?_,h5⟩
 have all:∀ {l:KvN}{m:List (SK×Addr×Value)},PN l m->(∀ p∈l,jP H p.2.1 p.1)->∀ x∈m,(o6 (gu P w)).is h x.1 x.2.1:=by
  intro l m q
  induction q with
  |nil=>intro _ x hx;exact nomatch hx
  |@cons p q ps qs hq t ih=>
   intro hk x hx
   rcases aE.mp hx with e |hx
   ·subst e
    have:=rz ok (hk p aC)
    rw[hq.1,hq.2.1]at this
    exact this
   ·exact ih (λp hp=>hk p (aw _ hp)) x hx
 exact all r e.keys x hx
end
theorem nz {A:Around}(hu:A.units+2<cLine):(o6 (gu P w)).room A.in1:=by
 show A.in1.units+1<cLine
 have:=in1_units A
 omega
section
variable {X:Cx}{pins:List (Addr×Obj)}{σ:St}{H:Hp}{s:Shared}{a c:Addr}{v:V}{r:Value}{k:SK}{kvs:KvN}{A:Around}{E:Value->Shared->Prop}
theorem CG {Q:Value->Shared->Prop}(hu:A.units+2<cLine)(I:Inv X pins σ H s)(e:DN X.prog X.w H a kvs)(ek:jP H c k)(l:valN kvs k=some v)(h:∀ w' s',Inv X pins σ H s'->RelV v w'->Q w' s'):
  wpAny (model X.prog X.w) A (getItem (.ref a) (.ref c)) Q E s:=by
 obtain⟨z,hd,xs,rel,dd⟩:=zH I.hok e
 obtain⟨w',hw,rw'⟩:=rS.some_of (v:=v) (o:=(atKey xs k).map (·.2)) (by rw[<-l];exact rel.val k)
 obtain⟨p,hp,hp2⟩:=Option.map_eq_some_iff.mp hw
 refine wpAny_getItem_heap (nz hu) (rz I.hok ek) dd hp ?_
 rw[hp2]
 exact h w' _ (I.tok _) rw'
theorem Gg {Q:Value->Shared->Prop}(hu:A.units+2<cLine)(I:Inv X pins σ H s)(e:DN X.prog X.w H a kvs)(ek:jP H c k)(h:∀ s',Inv X pins σ H s'->Q (.bool (!(valN kvs k).isSome)) s'):
  wpAny (model X.prog X.w) A (compareOp .NotIn (.ref c) (.ref a)) Q E s:=by
 obtain⟨z,hd,xs,rel,dd⟩:=zH I.hok e
 refine wpAny_notIn_heap (nz hu) (rz I.hok ek) hd dd ?_
 have q:=(rel.val k).nX
 rw[fq]at q
 rw[<-q]
 exact h _ (I.tok _)
theorem CF {Q:Unit->Shared->Prop}(hu:A.units+2<cLine)(I:Inv X pins σ H s)(e:DN X.prog X.w H a kvs)(ek:jP H c k)(l:kvs.length<sizeLine)(rv:RelV v r)(h:∀ s',Inv X pins σ (upd H a (nD X.prog X.w a (putN kvs k c v))) s'->Q () s'):
  wpAny (model X.prog X.w) A (setItem (.ref a) (.ref c) r) Q E s:=by
 obtain⟨z,hd,xs,rel,dd⟩:=zH I.hok e
 have hz:xs.length<=sizeLine:=by rw[<-bX rel];exact z
 have hl:(putN kvs k c v).length<=sizeLine:=by have:=uC kvs k c v;omega
 refine wpAny_setItem_heap (hsz:=hz) (nz hu) (rz I.hok ek) dd λh' dd' hs=>h _ ?_
 obtain⟨q,es,ep,hq,h2,h3,h4,_,h5⟩:=dd'
 exact rG I (by rw[e.at_];exact True.intro) hs ⟨q,hq⟩ (BB ⟨hl,hd,_,rel.put k c rv,q,es,ep,hq,h2,h3,h4,h5⟩)
end
theorem Es {b:Addr}{ys:List V}{o:HO}(h:H a=some (nD P w a kvs))(e:H b=some (.tup ys)):(upd H a o) b=some (.tup ys):=by
 rw[fK (gy e h (λz=>nomatch z))];exact e
theorem DN.put {c:Addr}{v:V}(h:DN P w H a kvs)(ek:jP H c k):DN P w (upd H a (nD P w a (putN kvs k c v))) a (putN kvs k c v):=by
 refine⟨fE,λp hp=>?_⟩
 refine jP.kH (H:=H) ?_ λb ys e=>Es h.at_ e
 unfold putN at hp
 split at hp
 ·obtain⟨q,hq,e⟩:=ao.mp hp
  by_cases f:q.1=k
  ·rw[aQ f]at e;rw[<-e];exact h.keys q hq
  ·rw[aG f]at e;rw[<-e];exact h.keys q hq
 ·rcases aD.mp hp with z |z
  ·exact h.keys p z
  ·rw[bH.mp z];exact ek
noncomputable def GX (P:Program)(w:World)(td ty:TE):TE:=λσ H Q=>td σ H λx H1=>ty σ H1 λy H2=>∃ a kvs c k v,x = .ref a/\y = .ref c/\DN P w H2 a kvs/\jP H2 c k/\valN kvs k=some v/\Q v H2
noncomputable def FU (P:Program)(w:World)(ty td:TE):TE:=λσ H Q=>ty σ H λy H1=>td σ H1 λx H2=>∃ a kvs c k,x = .ref a/\y = .ref c/\DN P w H2 a kvs/\jP H2 c k/\Q (.bl (!(valN kvs k).isSome)) H2
noncomputable def JL (P:Program)(w:World)(td ty tv:TE):TS:=λD σ H=>tv σ H λv H1=>td σ H1 λx H2=>ty σ H2 λy H3=>∃ a kvs c k,x = .ref a/\y = .ref c/\DN P w H3 a kvs/\jP H3 c k/\kvs.length<sizeLine/\D.nx σ (upd H3 a (nD P w a (putN kvs k c v)))
noncomputable def JD (P:Program)(w:World):TE:=λ_ H Q=>∀ p,H p=none->Q (.ref p) (upd H p (nD P w p []))
section
variable {X:Cx}{o i e value:Expr}{pos pos' Ju:Pos}{td ty tv:TE}
theorem C8 {pins:List (Addr×Obj)}{σ:St}{s:Shared}(I:Inv X pins σ H s)(g:DN X.prog X.w H a kvs):s.TypeIs (.ref a) "dict" :=by
 obtain⟨_,_,xs,_,o,es,ep,h1,h2,_⟩:=zH I.hok g
 exact⟨o,h1,h2.1⟩
theorem rh (hu:X.A.units+2<cLine)(ho:PE X o td)(hi:PE X i ty)(hs:FA i):PE X (.Subscript o i pos) (GX X.prog X.w td ty):=by
 intro pins s σ H Q I h
 refine xu fj.lookup hs (thn (ho pins s σ H _ I h) λu s1 ⟨x,H1,I1,rx,q1⟩=>thn (hi pins s1 σ H1 _ I1 q1) λiv s2 ⟨y,H2,I2,ry,a,kvs,c,k,v,ex,ey,g,gk,l,q2⟩=>?_)
 subst ex ey
 obtain rfl:u=Value.ref a:=rx
 obtain rfl:iv=Value.ref c:=ry
 exact⟨C8 I2 g,CG hu I2 g gk l λw' s3 I3 rw'=>⟨v,H2,I3,rw',q2⟩⟩
theorem wO (hu:X.A.units+2<cLine)(hi:PE X i ty)(ho:PE X o td):PC X .NotIn i o (FU X.prog X.w ty td):=by
 intro pins s σ H Q I h
 refine thn (hi pins s σ H _ I h) λiv s1 ⟨y,H1,I1,ry,q1⟩=>thn (ho pins s1 σ H1 _ I1 q1) λu s2 ⟨x,H2,I2,rx,a,kvs,c,k,ex,ey,g,gk,q2⟩=>?_
 subst ex ey
 obtain rfl:u=Value.ref a:=rx
 obtain rfl:iv=Value.ref c:=ry
 exact Gg hu I2 g gk λs3 I3=>⟨.bl (!(valN kvs k).isSome),H2,I3,rfl,q2⟩
theorem xK (hu:X.A.units+2<cLine)(ho:PE X o td)(hi:PE X i ty)(hv:PE X value tv)(hs:swapsWith value (some (.Subscript o i pos')) pos.line X.env=pure false):
  PS X (.Assign [.Subscript o i pos'] value pos) (JL X.prog X.w td ty tv):=by
 intro pins s σ H D I h
 refine wpAny_Assign_Subscript (thn (hv pins s σ H _ I h) λr s1 ⟨v,H1,I1,rv,q1⟩=>thn (ho pins s1 σ H1 _ I1 q1) λu s2 ⟨x,H2,I2,rx,q2⟩=>thn (hi pins s2 σ H2 _ I2 q2) λiv s3 ⟨y,H3,I3,ry,a,kvs,c,k,ex,ey,g,gk,l,q3⟩=>?_) hs
 subst ex ey
 obtain rfl:u=Value.ref a:=rx
 obtain rfl:iv=Value.ref c:=ry
 exact CF hu I3 g gk l rv λs4 I4=>⟨σ,_,I4,q3⟩
theorem F9:PE X (.Dict [] [] pos) (JD X.prog X.w):=λpins s σ H Q I h=>
 wpAny_Dict_empty ⟨.ref s.heap.objs.size,_,I.laid (a:=s.heap.objs.size) (o:=nD X.prog X.w s.heap.objs.size []) (t':=s.toks) (λ_ _ q=>ax _ q) (ar _)
  (BB ⟨aI _,eU.mpr (bI (aL I.big)),[],.nil,_,#[],0,aR _ rfl,⟨rfl,rfl,rfl⟩,rfl,rfl,cz⟩),rfl,h _ (I.hok.fresh (ar _))⟩
end
open TS
theorem Ij {X:Cx}{pins:List (Addr×Obj)}{σ:St}{s:Shared}{c:Addr}{v:V}{r:Value}{A:Around}{E:Value->Shared->Prop}{Q:Unit->Shared->Prop}(hu:A.units+1<cLine)(I:Inv X pins σ H s)(e:DN X.prog X.w H a kvs)(ek:jP H c k)(l:kvs.length<sizeLine)(rv:RelV v r)
  (h:∀ s',Inv X pins σ (upd H a (nD X.prog X.w a (putN kvs k c v))) s'->Q () s'):wpAny (model X.prog X.w) A (dictSet a (.ref c) r) Q E s:=by
 obtain⟨z,hd,xs,rel,dd⟩:=zH I.hok e
 have hz:xs.length<=sizeLine:=by rw[<-bX rel];exact z
 have hl:(putN kvs k c v).length<=sizeLine:=by have:=uC kvs k c v;omega
 refine wpAny_dictSet_heap (hsz:=hz) hu (rz I.hok ek) dd λh' dd' hs=>h _ ?_
 obtain⟨q,es,ep,hq,h2,h3,h4,_,h5⟩:=dd'
 exact rG I (by rw[e.at_];exact True.intro) hs ⟨q,hq⟩ (BB ⟨hl,hd,_,rel.put k c rv,q,es,ep,hq,h2,h3,h4,h5⟩)
section
variable {X:Cx}{pins:List (Addr×Obj)}{σ:St}{H1:Hp}{s2:Shared}{scope:Scope}{N:List Str}{own:Nat}{cap:List (Option Nat)}{cl:List (Str×Addr)}{fp:List Addr}
 {tg iter elt vlt:Expr}{ifs:List Expr}{pos:Pos}{g:TG}{tt:TT}{te tv:TE}{wi:TI}
noncomputable def Jl (P:Program)(w:World)(J:It)(g:TG)(tt:TT)(te tv:TE)(cap:List (Option Nat))(σ:St)(Q:VK)(l:Addr)(H1:Hp):Prop:=
 ∃ W:Nat->Nat->Hp->Prop,(∃ m,W 0 m (upd H1 l (nD P w l [])))/\∀ i m H,W i m H->
  (J.stop i H/\Q (.ref l) H)\/(J.go i H/\∃ N:Hp->Prop,(∀ H',N H'->∃ m',m'<m/\W (i+1) m' H')/\
   ∀ x H',J.yld i H x H'->g x (iF cap σ) H' λσ2 H2=>tt σ2 H2 λb H3=>
    if b=true then te σ2 H3 λy H4=>tv σ2 H4 λv H5=>∃ (kvs:KvN) (k:SK) (b:Addr),y = .ref b/\DN P w H5 l kvs/\jP H5 b k/\kvs.length<sizeLine/\N (upd H5 l (nD P w l (putN kvs k b v)))
    else N H3)
noncomputable def Lo (P:Program)(w:World)(wi:TI)(cap:List (Option Nat))(g:TG)(tt:TT)(te tv:TE):TE:=λσ H Q=>wi σ H λJ H1=>∀ l,H1 l=none->
 Jl P w J g tt te tv cap σ Q l H1
theorem A2 {it:Addr}{tn:Nat->Heap->Prop}{J:It}{Q:VK}{RR:Value->Addr->Result->Shared->Prop}{E:Value->Shared->Prop}(hu:X.A.units+1<cLine)(I:Inv X pins σ H1 s2)(T:Turn X.prog X.w X.K tg J fp it tn)(t0:tn 0 s2.heap)
  (f:∀ b∈fp,lS X pins H1 b) (hc:X.calm=true) (C:gF X.env.scope X.N scope N own cap) (ho:qj own g)
  (jX:∀ x c,cl.lookup x=some c->X.env.cells.lookup x=some c) (mh:∀ y∈scope.names,y.2 = .free->∃ c,cl.lookup y.1=some c)
  (hg:∀ s3 H3,PG (fU X scope cl N fp s3 H3) tg g) (ht:∀ s3 H3,sE (fU X scope cl N fp s3 H3) ifs tt) (he:∀ s3 H3,PE (fU X scope cl N fp s3 H3) elt te) (hv:∀ s3 H3,PE (fU X scope cl N fp s3 H3) vlt tv)
  (hw:∀ l,H1 l=none->Jl X.prog X.w J g tt te tv cap σ Q l H1)
  (fin:∀ l C s' H' m',Inv X pins σ H' s'->s'.heap.Ns C m'->H' C=none->Apart X pins C->Q (.ref l) H'->RR (.ref l) C (.ok .next) s'):
  wpAny (model X.prog X.w) X.A newDict (λacc s₃=>wpAny (model X.prog X.w) X.A (newFunctionEnv scope X.env.globals cl [] X.env.qual none .none (some X.env)) (λrL s₄=>
   codeAny (model X.prog X.w) X.A (.compStart (.DictComp elt vlt [⟨tg,iter,ifs,0⟩] scope pos) 0 (.ref it) acc {rL with scope:=relabel scope X.env}) (RR acc rL.locals) s₄) E s₃) E s2:=by
 refine bW ?_
 refine dO C.sk (by intro y hy;simp at hy) (λh₁ jk jj=>?_) C.kind
 dsimp only at jk jj ⊢
 obtain⟨W,⟨m0,w0⟩,turn⟩:=hw s2.heap.objs.size I.fresh
 have I3:Inv X pins σ (upd H1 s2.heap.objs.size (nD X.prog X.w s2.heap.objs.size [])) {s2 with heap:=s2.heap.push {cls:=.type "dict",data:=.dict #[]}} :=
  I.laid (t':=s2.toks) (λb u e=>ax _ e) (ar _) (BB ⟨aI _,eU.mpr (bI (aL I.big)),[],.nil,_,#[],0,aR _ rfl,⟨rfl,rfl,rfl⟩,rfl,rfl,cz⟩)
 generalize hs3:({s2 with heap:=s2.heap.push {cls:=.type "dict",data:=.dict #[]}} :Shared)=s3 at I3
 have hh3:s3.heap=s2.heap.push {cls:=.type "dict",data:=.dict #[]} :=by rw[<-hs3]
 rw[<-hh3]at jk jj ⊢
 have e4:({s2 with heap:=h₁,toks:=s2.toks+([]:List (Str×Value)).length} :Shared) = {s3 with heap:=h₁,toks:=s2.toks} :=by rw[<-hs3];rfl
 rw[e4]
 have k4:∀ b u,s3.heap.get? b=some u->h₁.get? b=some u:=λb u e=>jj.extBut b u (aL (aA e)) (ax _ e)
 have k3:∀ b u,s2.heap.get? b=some u->s3.heap.get? b=some u:=λb u e=>by rw[hh3];exact ax _ e
 have hb2:∀ b∈fp,b<s2.heap.objs.size:=λb hb=>by obtain⟨o,e,_⟩:=T.obj _ _ t0 b hb;exact aA e
 have f3:∀ b∈fp,lS X pins (upd H1 s2.heap.objs.size (nD X.prog X.w s2.heap.objs.size [])) b:=λb hb=>by
  obtain⟨f0,fr⟩:=f b hb
  exact⟨by rw[fK (aL (hb2 b hb))];exact f0,fr⟩
 have hb3:∀ b∈fp,b<s3.heap.objs.size:=λb hb=>by obtain⟨o,e,_⟩:=T.obj _ _ t0 b hb;exact aA (k3 b o e)
 have I4:=pg (tk:=s2.toks) I3 C jX mh (λb hb=>⟨f3 b hb,hb3 b hb⟩) jk k4
 generalize hH3:upd H1 s2.heap.objs.size (nD X.prog X.w s2.heap.objs.size [])=H3 at *
 have st4:tn 0 h₁:=T.keep _ _ _ t0 λb hb o e=>k4 b o (k3 b o e)
 have fpX:∀ {H':Hp},(∀ b∈fp,H' b=none)->∀ b∈fp,lS (fU X scope cl N fp s3 H3) [] H' b:=λ{H'} hn b hb=>by
  obtain⟨f0,f1,f2,f3',f4,f5⟩:=f3 b hb
  refine⟨hn b hb,aL (hb3 b hb),λhz=>?_,.inl hb,λx c e=>f4 x c (jX x c e),λp hp=>absurd (show p∈([]:List (Addr×Obj)) from hp) (by simp)⟩
  rcases aE.mp (I3.nv b hz)with z |z
  ·exact f1 z
  ·exact f2 z
 have loop:codeAny (model X.prog X.w) X.A (.compLoop (.DictComp elt vlt [⟨tg,iter,ifs,0⟩] scope pos) 0 (.ref it) (.ref s2.heap.objs.size) (compEnvC scope cl s3.heap.objs.size X.env)) (RR (.ref s2.heap.objs.size) s3.heap.objs.size) {s3 with heap:=h₁,toks:=s2.toks} :=by
  refine rK (λn s'=>∃ i H',Inv (fU X scope cl N fp s3 H3) [] (iF cap σ) H' s'/\tn i s'.heap/\(∀ b∈fp,H' b=none)/\W i n H') ?_ m0 ⟨0,H3,I4,st4,λb hb=>(f3 b hb).1,w0⟩
  rintro n s' ⟨i,H',I',st,fr,w⟩
  rcases turn i n H' w with⟨stop,q⟩|⟨go,NN,hNN,step⟩
  ·refine thn (T.done (fU X scope cl N fp s3 H3) rfl rfl rfl hc i [] s' _ H' (λ_ _=>False) I' (fpX fr) st stop) λr s5 ⟨hr,I5⟩=>?_
   subst hr
   obtain⟨m5,hn5,_⟩:=id I5.loc
   exact fin _ _ s5 H' m5 (comp_back I3 f3 I5) hn5 I5.free (TL.Inv.apart I3) q
  ·refine thn (T.item (fU X scope cl N fp s3 H3) rfl rfl rfl hc i [] s' _ H' (λ_ _=>False) I' (fpX fr) st go) λr s5 ⟨u,hr,h5⟩=>?_
   subst hr
   refine thn h5 λ_ s6 ⟨x,H6,I6,r6,y6,st6,fr6⟩=>?_
   have I6':=I6.pinned (fpX fr6) (T.obj _ _ st6)
   refine thn (hg s3 H3 _ s6 _ H6 x u _ I6' r6 (ho.own _ _ _ _ (step x H6 y6))) λ_ s7 ⟨σ7,H7,I7,q7,l7,o7⟩=>?_
   have cov:∀ (i:Nat) v,(iF cap σ)[i]? = some (some v)->σ7[i]? = some (some v):=λi v e=>by
    obtain⟨j,c1,c2⟩:=my e
    by_cases hi:i<own
    ·exact(C.o8 hi c1).elim
    ·rw[o7 i (by omega)];exact e
   have back:∀ {H8:Hp}{s8:Shared},Inv (fU X scope cl N fp s3 H3) ([]++ox fp s6.heap) σ7 H8 s8->Inv (fU X scope cl N fp s3 H3) [] (iF cap σ) H8 s8/\tn (i+1) s8.heap/\∀ b∈fp,H8 b=none:=λ{H8 s8} I8=>by
    refine⟨(Inv.lF (pins:=[]) I8).weak l7.symm cov,T.keep _ _ _ st6 λb hb o e=>(I8.pin (b,o) (az _ (az _ (iI hb e)))).1,λb hb=>?_⟩
    obtain⟨o,e,d⟩:=T.obj _ _ st6 b hb
    exact(I8.pin (b,o) (az _ (az _ (iI hb e)))).2.1
   refine thn (ht s3 H3 _ s7 σ7 H7 _ I7 q7) λb s8 ⟨H8,I8,q8⟩=>?_
   cases b with
   |false=>
    rw[aG aB]at q8 ⊢
    obtain⟨m',hm,w8⟩:=hNN _ q8
    obtain⟨J1,J2,J3⟩:=back I8
    exact⟨m',hm,i+1,H8,J1,J2,J3,w8⟩
   |true=>
    rw[aQ rfl]at q8 ⊢
    refine thn (he s3 H3 _ s8 σ7 H8 _ I8 q8) λu9 s9 ⟨y,H9,I9,r9,q9⟩=>?_
    refine thn (hv s3 H3 _ s9 σ7 H9 _ I9 q9) λv s10 ⟨v',H10,I10,r10,kvs,k,b,ey,ha,hb,hz,n10⟩=>?_
    obtain⟨m',hm,w10⟩:=hNN _ n10
    subst ey
    cases(show u9=Value.ref b from r9)
    refine Ij (X:=fU X scope cl N fp s3 H3) hu I10 ha hb hz r10 λs11 I11=>?_
    obtain⟨J1,J2,J3⟩:=back I11
    exact⟨m',hm,i+1,_,J1,J2,J3,w10⟩
 exact codeAny_compStart_dict loop (T.self X.A 0 _ _ _ st4 loop)
theorem HS {i:Nat}{x:Str}{pos' DE:Pos}(hu:X.A.units+1<cLine)(hN:X.N.Nodup)(hi':X.N[i]? = some x)(hx:X.env.scope.names.lookup x=some .local)(hi:PI X tg iter wi)(hc:X.calm=true)(C:gF X.env.scope X.N scope N own cap)(ho:qj own g)
  (hg:∀ cl fp s3 H3,PG (fU X scope cl N fp s3 H3) tg g) (ht:∀ cl fp s3 H3,sE (fU X scope cl N fp s3 H3) ifs tt) (he:∀ cl fp s3 H3,PE (fU X scope cl N fp s3 H3) elt te) (hv:∀ cl fp s3 H3,PE (fU X scope cl N fp s3 H3) vlt tv)
  (hsw:swapsWith (.DictComp elt vlt [⟨tg,iter,ifs,0⟩] scope pos) (some (.Name x pos')) DE.line X.env=pure true:=by rfl)
  (hs:∀ x,foldedSetIterable iter X.env x=pure x:=by intro _;rfl):PS X (.Assign [.Name x pos'] (.DictComp elt vlt [⟨tg,iter,ifs,0⟩] scope pos) DE) (Dz (Lo X.prog X.w wi cap g tt te tv) (oN i)):=by
 intro pins s σ H D I h
 obtain⟨cl,ecl,jX,mh⟩:=kW (scope:=scope) (env:=X.env) λy hy hf=>I.ok.has y.1 (C.fre y hy hf)
 rw[exec_Assign_Name_used _ _ _ _ hsw]
 refine ae (cU (ae ?_))
 show wpAny _ X.A (do let _ <-comprehension (.DictComp elt vlt [⟨tg,iter,ifs,0⟩] scope pos) scope X.env _ newDict false (eval iter X.env) (some (assign (.Name x pos') X.env))) _ _ s
 refine ae (bf (cA (use:=some (assign (.Name x pos') X.env)) (Q:=λ_ s'=>SP X pins D .next s') rfl hs ecl C.kind C.loc
  (thn (hi pins s σ H _ I h) λxv s1 h1=>thn h1 λitv s2 h2=>?_)) (λ_ s' hq=>aj (aj hq)) λ_ _ e=>e)
 obtain⟨it,fp,tn,J,H2,e,I2,T,st2,f2,hw⟩:=h2
 subst e
 refine A2 (RR:=λacc C=>compPost (model X.prog X.w) X.A X.xe (some (assign (.Name x pos') X.env)) (λ_ s'=>SP X pins D .next s') acc C) hu I2 T st2 f2 hc C ho jX mh (hg cl fp) (ht cl fp) (he cl fp) (hv cl fp) hw λl Ca s' H' m' I' hn kL hP q=>?_
 show wpAny _ X.A (assign (.Name x pos') X.env (.ref l)) _ _ _
 refine wpAny_assign_Name (rZ I' hN hi' (.inl hx) (v:=.ref l) rfl (λs5 I5 ⟨a,sb,ha⟩=>?_) (.inr hx))
 have hne:Ca≠a:=by
  rcases ha with z |z
  ·rw[z];exact hP.loc
  ·exact λe=>hP.cel x a z e.symm
 refine⟨m',hn.sameBut sb hne,λh'' vg=>⟨_,H',mx I5 hP kL vg,q⟩⟩
end
end TL
namespace TL
open PySem PySem.Spec PyProof.Rows L2
open TS
noncomputable def qf (l:Ln)(ns:List Int)(es:List Ent):Prop:=∀ e∈es,match e.2 with
 |none=>e.1=ns
 |some (t,k)=>(k,e.1)∈mvs l t
theorem qf.scan {l:Ln}{ns t:List Int} :∀ {ms:List Mv}{es:List Ent},(∀ m∈ms,m∈mvs l t)->qf l ns es->qf l ns (gW t ms es)
 |[],_,_,h=>h
 |m::r,es,hm,h=>by
  refine qf.scan (ms:=r) (λx hx=>hm x (aw _ hx)) ?_
  unfold nF
  split
  ·exact h
  ·intro e he
   rcases aD.mp he with z |z
   ·exact h e z
   ·rw[bH.mp z]
    exact hm m aC
theorem tW (l:Ln)(ns:List Int):∀ i,qf l ns (fR l ns i)
 | 0=>λe he=>by have z:e=(ns,none):=(by simpa [fR]using he);rw[z]
 |i+1=>by
  have ih:=tW l ns i
  rw[fR]
  split
  ·exact qf.scan (λm hm=>hm) ih
  ·exact ih
end TL
namespace TL
open PySem PySem.Spec PyProof.Rows L2
noncomputable abbrev Sta:=List Int×Str
noncomputable abbrev Bk:=Option (Sta×Option (Str×Int))
noncomputable abbrev EnS:=Sta×Bk
noncomputable def kS (s:Sta):SK:=(kyI s.1,.inr s.2)
theorem yf {a b:Sta}(h:kS a=kS b):a=b:=by
 have h1:=oB (cf Prod.fst h)
 have h2:a.2=b.2:=Sum.inr.inj (cf Prod.snd h)
 exact fe h1 h2
noncomputable def lQ (t:List Int)(w:Str)(x:List EnS×List Sta)(m:Mv):List EnS×List Sta:=
 open Classical in if m.1.1=w/\(m.2,w)∉x.1.map (·.1)then(x.1 ++ [((m.2,w),some ((t,w),some m.1))],x.2 ++ [(m.2,w)])else x
noncomputable def ic (t:List Int)(w:Str)(ms:List Mv)(x:List EnS×List Sta):List EnS×List Sta:=ms.foldl (lQ t w) x
variable {x:List EnS×List Sta}
theorem Ak {t:List Int}{w:Str}{ms:List Mv}{j:Nat}{m:Mv}(h:ms[j]? = some m):ic t w (ms.take (j+1)) x=lQ t w (ic t w (ms.take j) x) m:=by
 unfold ic
 rw[aV,h,cM]
 rfl
theorem Fw (t:List Int)(w:Str)(x:List EnS×List Sta)(m:Mv):x.2 <+:(lQ t w x m).2/\x.1 <+:(lQ t w x m).1:=by
 unfold lQ
 split
 ·exact⟨cX _ _,cX _ _⟩
 ·exact⟨bO _,bO _⟩
theorem mq (t:List Int)(w:Str):∀ (ms:List Mv) (x:List EnS×List Sta),x.2 <+:(ic t w ms x).2/\x.1 <+:(ic t w ms x).1
 |[],x=>⟨bO _,bO _⟩
 |m::r,x=>by
  have h1:=Fw t w x m
  have h2:=mq t w r (lQ t w x m)
  exact⟨h1.1.trans h2.1,h1.2.trans h2.2⟩
theorem uv (t:List Int)(w:Str)(ms:List Mv)(x:List EnS×List Sta)(j:Nat):(ic t w (ms.take j) x).2 <+:(ic t w ms x).2/\(ic t w (ms.take j) x).1 <+:(ic t w ms x).1:=by
 have:=mq t w (ms.drop j) (ic t w (ms.take j) x)
 have e:ic t w (ms.drop j) (ic t w (ms.take j) x)=ic t w ms x:=by
  unfold ic
  rw[<-cM,cG]
 rw[e]at this
 exact this
noncomputable def goS (l:Ln)(x:List EnS×List Sta):Nat->List EnS×List Sta
 | 0=>x
 |i+1=>match (goS l x i).2[i]? with
  |some s=>ic s.1 s.2 (mvs l s.1) (goS l x i)
  |none=>goS l x i
variable {s:Sta}
theorem zF {l:Ln}{i:Nat}(h:(goS l x i).2[i]? = some s):goS l x (i+1)=ic s.1 s.2 (mvs l s.1) (goS l x i):=by
 rw[goS,h]
theorem wy {l:Ln}{P:Sta->Prop}{t:List Int}{w:Str}(h:∀ m∈mvs l t,P (m.2,w)):∀ {ms:List Mv}{x:List EnS×List Sta},(∀ m∈ms,m∈mvs l t)->(∀ s∈x.2,P s)->∀ s∈(ic t w ms x).2,P s
 |[],x,_,hx=>hx
 |m::r,x,hm,hx=>by
  refine wy h (ms:=r) (x:=lQ t w x m) (λy hy=>hm y (aw _ hy)) ?_
  unfold lQ
  split
  ·intro s hs
   rcases aD.mp hs with z |z
   ·exact hx s z
   ·rw[bH.mp z];exact h m (hm m aC)
  ·exact hx
theorem tR {l:Ln}{P:Sta->Prop}(hP:∀ s m,P s->m∈mvs l s.1->P (m.2,s.2)){x:List EnS×List Sta}(hx:∀ s∈x.2,P s):∀ i,∀ s∈(goS l x i).2,P s
 | 0=>hx
 |i+1=>by
  rw[goS]
  split
  ·rename_i s hs
   exact wy (λm hm=>hP s m (tR hP hx i s (au hs)) hm) (λm hm=>hm) (tR hP hx i)
  ·exact tR hP hx i
noncomputable def A9 (K:PySem.W.Frag)(H:Hp):Bk->V->Prop
 |none,v=>v = .non
 |some (s,none),v=>∃ ad c,v = .ref ad/\H ad=some (.tup [.ref c,.non])/\jP H c (kS s)
 |some (s,some m),v=>∃ ad c p1,v = .ref ad/\H ad=some (.tup [.ref c,.ref p1])/\jP H c (kS s)/\SqT K H p1 [.str m.1,.int m.2]
variable {K:PySem.W.Frag}{H:Hp}
theorem A9.to {H':Hp}(f:∀ b ys,H b=some (.tup ys)->H' b=some (.tup ys))(g:∀ b ys,SqT K H b ys->SqT K H' b ys):∀ {b:Bk}{v:V},A9 K H b v->A9 K H' b v
 |none,v,h=>h
 |some (s,none),v,h=>by
  obtain⟨ad,c,e,h1,h2⟩:=h
  exact⟨ad,c,e,f _ _ h1,h2.kH f⟩
 |some (s,some m),v,h=>by
  obtain⟨ad,c,p1,e,h1,h2,h3⟩:=h
  exact⟨ad,c,p1,e,f _ _ h1,h2.kH f,g _ _ h3⟩
noncomputable def kvN (es:List EnS)(cs:List Addr)(vs:List V):KvN:=(es.zip (cs.zip vs)).map λp=>(kS p.1.1,p.2.1,p.2.2)
structure StN (P:Program)(w:World)(K:PySem.W.Frag)(H:Hp)(d:Addr)(es:List EnS)(cs:List Addr)(vs:List V):Prop where
 dn:DN P w H d (kvN es cs vs)
 lc:cs.length=es.length
 lv:vs.length=es.length
 each:∀ (i:Nat) e v,es[i]? = some e->vs[i]? = some v->A9 K H e.2 v
structure StL (H:Hp)(p:Addr)(as:List Addr)(ss:List Sta):Prop where
 at_:H p=some (.lst (as.map V.ref))
 len:as.length=ss.length
 each:∀ (i:Nat) a s,as[i]? = some a->ss[i]? = some s->jP H a (kS s)
variable {ss:List Sta}
theorem StL.same {H':Hp}{p:Addr}{as:List Addr}(h:StL H p as ss)(s:fL H H'):StL H' p as ss:=⟨s _ _ h.at_,h.len,λi a t h1 h2=>(h.each i a t h1 h2).same s⟩
variable {P:Program}{w:World}{d:Addr}{es:List EnS}{cs:List Addr}{vs:List V}
theorem StN.same {H':Hp}(h:StN P w K H d es cs vs)(s:fL H H'):StN P w K H' d es cs vs:=
 ⟨h.dn.same s,h.lc,h.lv,λi e v h1 h2=>(h.each i e v h1 h2).to (λb ys q=>s _ _ q) λb ys q=>gx s q⟩
theorem BI:∀ (es:List EnS) (cs:List Addr) (vs:List V),cs.length=es.length->vs.length=es.length->∀ s:Sta,(valN (kvN es cs vs) (kS s)).isSome=true↔s∈es.map (·.1)
 |[],_,_,_,_,s=>by simp[kvN,valN]
 |e::es,[],_,h,_,s=>by simp at h
 |e::es,c::cs,[],_,h,s=>by simp at h
 |e::es,c::cs,v::vs,h1,h2,s=>by
  have e0:kvN (e::es) (c::cs) (v::vs)=(kS e.1,c,v)::kvN es cs vs:=rfl
  have ih:=BI es cs vs (by simpa using h1) (by simpa using h2) s
  rw[e0,aZ,aE]
  by_cases f:e.1=s
  ·rw[jF (p:=(kS e.1,c,v)) (by rw[f])]
   simp[f]
  ·rw[jG (p:=(kS e.1,c,v)) (λz=>f (yf z)),ih]
   exact⟨λz=>.inr z,λz=>z.resolve_left λy=>f y.symm⟩
theorem StN.mem (h:StN P w K H d es cs vs)(s:Sta):(valN (kvN es cs vs) (kS s)).isSome=true↔s∈es.map (·.1):=BI es cs vs h.lc h.lv s
theorem BJ (h1:cs.length=es.length)(h2:vs.length=es.length):(kvN es cs vs).length=es.length:=by
 unfold kvN
 rw[aa,bV,bV]
 omega
theorem EK (h1:cs.length=es.length)(h2:vs.length=es.length)(e:EnS)(c:Addr)(v:V):kvN (es ++ [e]) (cs ++ [c]) (vs ++ [v])=kvN es cs vs ++ [(kS e.1,c,v)]:=by
 unfold kvN
 rw[List.zip_append (by omega),List.zip_append (by rw[bV];omega),av]
 rfl
theorem StN.push {c:Addr}{e:EnS}{v:V}(h:StN P w K H d es cs vs)(hn:e.1∉es.map (·.1))(hc:jP H c (kS e.1))(hb:A9 K H e.2 v):
  StN P w K (upd H d (nD P w d (putN (kvN es cs vs) (kS e.1) c v))) d (es ++ [e]) (cs ++ [c]) (vs ++ [v]):=by
 have hv:¬(valN (kvN es cs vs) (kS e.1)).isSome=true:=λz=>hn ((h.mem e.1).mp z)
 have ep:putN (kvN es cs vs) (kS e.1) c v=kvN (es ++ [e]) (cs ++ [c]) (vs ++ [v]):=by
  rw[EK h.lc h.lv]
  unfold putN
  rw[aG hv]
 have dp:=h.dn.put (v:=v) hc
 have f:∀ b ys,H b=some (.tup ys)->(upd H d (nD P w d (putN (kvN es cs vs) (kS e.1) c v))) b=some (.tup ys):=λb ys q=>Es h.dn.at_ q
 have g:∀ b ys,SqT K H b ys->SqT K (upd H d (nD P w d (putN (kvN es cs vs) (kS e.1) c v))) b ys:=λb ys q=>by
  rcases q with(q |⟨o,q⟩)|q
  ·exact .inl (.inl (f _ _ q))
  ·exact .inl (.inr ⟨o,by rw[fK (gy q h.dn.at_ (λz=>nomatch z))];exact q⟩)
  ·exact .inr q
 refine⟨?_,by rw[ak,ak,h.lc];rfl,by rw[ak,ak,h.lv];rfl,λi e' v' he hv'=>?_⟩
 ·rw[<-ep];exact dp
 ·by_cases hi:i<es.length
  ·rw[aq hi]at he
   rw[aq (by rw[h.lv];exact hi)]at hv'
   exact(h.each i e' v' he hv').to f g
  ·have hi2:i=es.length:=by
    have:=(af.mp he).1
    rw[ak,aP]at this
    omega
   rw[hi2,ay (ar _),bu]at he
   rw[hi2,<-h.lv,ay (ar _),bu]at hv'
   cases he
   cases hv'
   exact hb.to f g
theorem StL.push {H':Hp}{p a:Addr}{as:List Addr}(h:StL H p as ss)(f:∀ b ys,H b=some (.tup ys)->H' b=some (.tup ys))(hp:H' p=some (.lst (as.map V.ref ++ [.ref a])))(ha:jP H' a (kS s)):StL H' p (as ++ [a]) (ss ++ [s]):=by
 refine⟨by rw[hp,av];rfl,by rw[ak,ak,h.len];rfl,λi b t hb ht=>?_⟩
 by_cases hi:i<as.length
 ·rw[aq hi]at hb
  rw[aq (by rw[<-h.len];exact hi)]at ht
  exact(h.each i b t hb ht).kH f
 ·have hi2:i=as.length:=by
   have:=(af.mp hb).1
   rw[ak,aP]at this
   omega
  rw[hi2,ay (ar _),bu]at hb
  rw[hi2,h.len,ay (ar _),bu]at ht
  cases hb
  cases ht
  exact ha
theorem mO {A:Around}{k:Nat}(hr:m6 k A):A.units+2<cLine:=bL (Nat.add_le_add_left (by decide:2<=64) _) hr.units
theorem yZ {X:Cx}{o i:Expr}{pos:Pos}{td ty:TE}(eP:X.prog=P)(ew:X.w=w)(hu:X.A.units+2<cLine)(ho:PE X o td)(hi:PE X i ty)(hs:FA i):PE X (.Subscript o i pos) (GX P w td ty):=by subst eP ew;exact rh hu ho hi hs
noncomputable def ow (w:Str):Str:=if w=Str.ofString "on" then Str.ofString "back" else Str.ofString "on"
noncomputable def isW (w:Str):Prop:=w=Str.ofString "on" \/w=Str.ofString "back"
theorem isW.ow {w:Str}(h:isW w):isW (ow w):=by
 unfold TL.ow
 split
 ·exact .inr rfl
 ·exact .inl rfl
structure GR (P:Program)(w:World)(K:PySem.W.Frag)(mg:Str->Option Value)(od:Addr):Prop where
 m:mg "OTHER_WORD" = some (.ref od)
 d:∀ h:Heap,K.In h->∃ t u:Tok,h.DictOf (gu P w) od [(.inr (Str.ofString "on"),.str (Str.ofString "back") t),(.inr (Str.ofString "back"),.str (Str.ofString "on") u)]
noncomputable def tOw (ty:TE):TE:=λσ H Q=>ty σ H λy H1=>∃ w,y = .str w/\isW w/\Q (.str (ow w)) H1
theorem JX {X:Cx}{i:Expr}{p pos:Pos}{ty:TE}{od:Addr}(O:GR X.prog X.w X.K X.mg od)(hg:Gl X "OTHER_WORD")(hi:PE X i ty)(hs:FA i):PE X (.Subscript (.Name "OTHER_WORD" p) i pos) (tOw ty):=by
 intro pins s σ H Q I h
 have ho:PE X (.Name "OTHER_WORD" p) (tC (.ref od)):=me hg O.m rfl
 refine xu fj.lookup hs (thn (ho pins s σ H _ I (show tC (.ref od) σ H (λx H1=>x = .ref od/\H1=H) from⟨rfl,rfl⟩)) λu s1 ⟨x,H1,I1,rx,ex,eH⟩=>?_)
 subst ex eH
 obtain rfl:u=Value.ref od:=rx
 refine thn (hi pins s1 σ H1 _ I1 h) λiv s2 ⟨y,H2,I2,ry,w,ey,hw,q⟩=>?_
 subst ey
 obtain⟨t,u,dd⟩:=O.d s2.heap I2.kIn
 have hT:s2.TypeIs (.ref od) "dict" :=by
  obtain⟨o,es,ep,h1,h2,_⟩:=dd
  exact⟨o,h1,h2.1⟩
 refine⟨hT,?_⟩
 have hn:¬Str.ofString "on" = Str.ofString "back" :=by decide +kernel
 rcases hw with rfl |rfl
 ·refine wpAny_getItem_of (k:=.inr (Str.ofString "on")) (oM (P:=X.prog) (w:=X.w) (k:=.inr (Str.ofString "on")) ry) dd.mapOf (v:=.str (Str.ofString "back") t) ?_ ⟨.str (ow (Str.ofString "on")),H2,I2.tok _,?_,q⟩
  ·unfold valueAt;simp
  ·unfold ow;rw[aQ rfl];exact⟨t,rfl⟩
 ·refine wpAny_getItem_of (k:=.inr (Str.ofString "back")) (oM (P:=X.prog) (w:=X.w) (k:=.inr (Str.ofString "back")) ry) dd.mapOf (v:=.str (Str.ofString "on") u) ?_ ⟨.str (ow (Str.ofString "back")),H2,I2.tok _,?_,q⟩
  ·unfold valueAt
   rw[cm (by simp;exact hn),cD (by simp)]
   rfl
  ·unfold ow;rw[aG (λz=>hn z.symm)];exact⟨u,rfl⟩
noncomputable def jq (x:List EnS×List Sta)(s:Sta):List EnS×List Sta:=
 open Classical in if(s.1,ow s.2)∉x.1.map (·.1)then(x.1 ++ [((s.1,ow s.2),some (s,none))],x.2 ++ [(s.1,ow s.2)])else x
noncomputable def chN (ss:List Sta)(es:List EnS):List EnS×List Sta:=ss.foldl jq (es,[])
theorem Fm {j:Nat}(h:ss[j]? = some s):chN (ss.take (j+1)) es=jq (chN (ss.take j) es) s:=by
 unfold chN
 rw[aV,h,cM]
 rfl
theorem Fj (x:List EnS×List Sta)(s:Sta):(jq x s).1.length<=x.1.length+1/\(jq x s).2.length<=x.2.length+1:=by
 unfold jq
 split
 ·rw[ak,ak];exact⟨ar _,ar _⟩
 ·exact⟨Nat.le_succ _,Nat.le_succ _⟩
theorem B0 (es:List EnS):∀ (ss:List Sta) (x:List EnS×List Sta),(ss.foldl jq x).1.length<=x.1.length+ss.length/\(ss.foldl jq x).2.length<=x.2.length+ss.length
 |[],x=>⟨ar _,ar _⟩
 |s::r,x=>by
  have h1:=Fj x s
  have h2:=B0 es r (jq x s)
  rw[eR,aO]
  omega
theorem zE {l:Ln}{x:List EnS×List Sta}{i:Nat}(h:(goS l x i).2.length<=i):∀ k,goS l x (i+k)=goS l x i
 | 0=>rfl
 |k+1=>by
  have ih:=zE h k
  rw[<-Nat.add_assoc,goS,ih,bg (by omega)]
noncomputable def goF (l:Ln)(x:List EnS×List Sta):List EnS×List Sta:=goS l x 1000
theorem IV {l:Ln}{i:Nat}(h:(goS l x i).2.length=i)(hi:i<=1000):goF l x=goS l x i:=by
 have:=zE (Nat.le_of_eq h) (1000-i)
 rw[show i+(1000-i)=1000 by omega]at this
 exact this
noncomputable def onW:Str:=Str.ofString "on"
noncomputable def jg:Str:=Str.ofString "back"
noncomputable def r0 (tr:List Int):List EnS×List Sta:=([((tr,onW),none),((tr,jg),none)],[(tr,onW),(tr,jg)])
noncomputable def rnd (l:Ln)(tr:List Int):Nat->List EnS×List Sta
 | 0=>r0 tr
 |r+1=>chN (goF l (rnd l tr r)).2 (goF l (rnd l tr r)).1
noncomputable def cnt (l:Ln)(tr:List Int):Nat->Sta->Option Nat
 | 0,_=>none
 |r+1,s=>open Classical in if s∈(goF l (rnd l tr r)).2 then some r else cnt l tr r s
structure RO (W:List (List Int))(x:List EnS×List Sta):Prop where
 nd:(x.1.map (·.1)).Nodup
 inW:∀ s∈x.1.map (·.1),s.1∈W/\isW s.2
 sub:∀ s∈x.2,s∈x.1.map (·.1)
 nd2:x.2.Nodup
variable {W:List (List Int)}
theorem RO.push {b:Bk}(h:RO W x)(hn:s∉x.1.map (·.1))(hw:s.1∈W/\isW s.2):RO W (x.1 ++ [(s,b)],x.2 ++ [s]):=by
 refine⟨?_,λt ht=>?_,λt ht=>?_,?_⟩
 ·show((x.1 ++ [(s,b)]).map (·.1)).Nodup
  rw[av]
  exact bQ.mpr ⟨h.nd,by simp,λa ha b hb=>by simp at hb;subst hb;exact λz=>hn (z ▸ ha)⟩
 ·rw[show((x.1 ++ [(s,b)],x.2 ++ [s]):List EnS×List Sta).1=x.1 ++ [(s,b)] from rfl,av]at ht
  rcases aD.mp ht with z |z
  ·exact h.inW t z
  ·have:t=s:=by simpa using z
   rw[this];exact hw
 ·show t∈(x.1 ++ [(s,b)]).map (·.1)
  rw[av]
  rcases aD.mp ht with z |z
  ·exact bz _ (h.sub t z)
  ·have:t=s:=by simpa using z
   rw[this];exact az _ (by simp)
 ·exact bQ.mpr ⟨h.nd2,by simp,λa ha b hb=>by simp at hb;subst hb;exact λz=>hn (z ▸ h.sub a ha)⟩
theorem RO.add {t:List Int}{w:Str}{m:Mv}(h:RO W x)(hm:m.2∈W)(hw:isW w):RO W (lQ t w x m):=by
 unfold lQ
 split
 ·rename_i c
  exact h.push c.2 ⟨hm,hw⟩
 ·exact h
theorem RO.scan {W:List (List Int)}{t:List Int}{w:Str}(hw:isW w):∀ {ms:List Mv}{x:List EnS×List Sta},RO W x->(∀ m∈ms,m.2∈W)->RO W (ic t w ms x)
 |[],_,h,_=>h
 |m::r,x,h,hm=>RO.scan hw (ms:=r) (h.add (hm m aC) hw) λy hy=>hm y (aw _ hy)
theorem RO.go {l:Ln}{W:List (List Int)}(km:∀ t∈W,∀ m∈mvs l t,m.2∈W){x:List EnS×List Sta}(h:RO W x):∀ i,RO W (goS l x i)
 | 0=>h
 |i+1=>by
  have ih:=RO.go km h i
  rw[goS]
  split
  ·rename_i s hs
   have:=ih.inW s (ih.sub s (au hs))
   exact ih.scan this.2 (km s.1 this.1)
  ·exact ih
theorem RO.chg (h:RO W x)(hs:s.1∈W/\isW s.2):RO W (jq x s):=by
 unfold jq
 split
 ·rename_i c
  exact h.push c ⟨hs.1,hs.2.ow⟩
 ·exact h
theorem RO.Fh {W:List (List Int)} :∀ {ss:List Sta}{x:List EnS×List Sta},RO W x->(∀ s∈ss,s.1∈W/\isW s.2)->RO W (ss.foldl jq x)
 |[],_,h,_=>h
 |s::r,x,h,hs=>RO.Fh (ss:=r) (h.chg (hs s aC)) λy hy=>hs y (aw _ hy)
theorem RO.change (h:RO W x):RO W (chN x.2 x.1):=
 RO.Fh (x:=(x.1,[])) ⟨h.nd,h.inW,λs hs=>(by cases hs),cz⟩ λs hs=>h.inW s (h.sub s hs)
theorem RO.rnd {l:Ln}{W:List (List Int)}(km:∀ t∈W,∀ m∈mvs l t,m.2∈W){tr:List Int}(ht:tr∈W):∀ r,RO W (rnd l tr r)
 | 0=>by
  have hn:onW≠jg:=by unfold onW jg;decide +kernel
  refine⟨?_,λs hs=>?_,λs hs=>hs,?_⟩
  ·show[(tr,onW),(tr,jg)].Nodup
   simp[hn]
  ·have hs:s=(tr,onW)\/s=(tr,jg):=by
    have:s∈ [(tr,onW),(tr,jg)]:=hs
    simpa using this
   rcases hs with e |e
   ·rw[e];exact⟨ht,.inl rfl⟩
   ·rw[e];exact⟨ht,.inr rfl⟩
  ·show[(tr,onW),(tr,jg)].Nodup
   simp[hn]
 |r+1=>(RO.go km (RO.rnd km ht r) 1000).change
theorem qp {α:Type} :∀ {xs ys:List α},xs.Nodup->(∀ x∈xs,x∈ys)->xs.length<=ys.length
 |[],_,_,_=>aI _
 |x::xs,ys,hn,hs=>by
  obtain⟨a,b,e⟩:=List.append_of_mem (hs x aC)
  have hx:=bq.mp hn
  have:=qp (xs:=xs) (ys:=a++b) hx.2 λy hy=>by
   have h1:=hs y (aw _ hy)
   rw[e]at h1
   rcases aD.mp h1 with z |z
   ·exact bz _ z
   ·rcases aE.mp z with z |z
    ·exact absurd hy (by rw[z];exact hx.1)
    ·exact az _ z
  rw[e,ak,aO,aO]
  rw[ak]at this
  omega
theorem RO.len (h:RO W x):x.1.length<=2*W.length/\x.2.length<=2*W.length:=by
 have big:∀ ys:List Sta,ys.Nodup->(∀ s∈ys,s∈x.1.map (·.1))->ys.length<=2*W.length:=λys hy hs=>by
  have Gu:∀ s∈ys,s∈W.map (λt=>(t,onW))++W.map (λt=>(t,jg)):=λs hs'=>by
   obtain⟨h1,h2⟩:=h.inW s (hs s hs')
   rcases h2 with e |e
   ·exact bz _ (ao.mpr ⟨s.1,h1,fe rfl e.symm⟩)
   ·exact az _ (ao.mpr ⟨s.1,h1,fe rfl e.symm⟩)
  have:=qp hy Gu
  rw[ak,aa,aa]at this
  omega
 refine⟨?_,big x.2 h.nd2 h.sub⟩
 have:=big (x.1.map (·.1)) h.nd λs hs=>hs
 rwa [aa]at this
theorem yj (l:Ln)(x:List EnS×List Sta):∀ i,x.1 <+:(goS l x i).1
 | 0=>bO _
 |i+1=>by
  have ih:=yj l x i
  rw[goS]
  split
  ·rename_i s _
   exact ih.trans (mq s.1 s.2 (mvs l s.1) (goS l x i)).2
  ·exact ih
theorem xi:∀ (ss:List Sta) (x:List EnS×List Sta),(ss.foldl jq x).1.length+x.2.length=x.1.length+(ss.foldl jq x).2.length
 |[],x=>rfl
 |s::r,x=>by
  have h2:=xi r (jq x s)
  have h1:(jq x s).1.length+x.2.length=x.1.length+(jq x s).2.length:=by
   unfold jq
   split
   ·simp only[ak,aP];omega
   ·rfl
  rw[eR]
  omega
theorem Fo (ss:List Sta)(es:List EnS):(chN ss es).1.length=es.length+(chN ss es).2.length:=by
 have:=xi ss (es,[])
 simpa [chN]using this
theorem Et {a b:Addr}{kvs:KvN}{ys:List V}(h:H a=some (nD P w a kvs))(e:H b=some (.tup ys)):b≠a:=gy e h (λz=>nomatch z)
theorem StN.other {c:Addr}{us:List V}{kvs:KvN}{o:HO}(h:StN P w K H d es cs us)(hc:H c=some (nD P w c kvs))(dc:d≠c):StN P w K (upd H c o) d es cs us:=by
 have f:∀ b zs,H b=some (.tup zs)->(upd H c o) b=some (.tup zs):=λb zs q=>by rw[fK (Et hc q)];exact q
 refine⟨⟨by rw[fK dc];exact h.dn.at_,λq hq=>(h.dn.keys q hq).kH f⟩,h.lc,h.lv,λi e v h1 h2=>(h.each i e v h1 h2).to f λb zs q=>?_⟩
 rcases q with(q |⟨o',q⟩)|q
 ·exact .inl (.inl (f _ _ q))
 ·exact .inl (.inr ⟨o',by rw[fK (gy q hc (λz=>nomatch z))];exact q⟩)
 ·exact .inr q
theorem StL.other {p c:Addr}{as:List Addr}{kvs:KvN}{o:HO}(h:StL H p as ss)(hc:H c=some (nD P w c kvs)):StL (upd H c o) p as ss:=
 ⟨by rw[fK (gy h.at_ hc (λz=>nomatch z))];exact h.at_,h.len,λi a s h1 h2=>(h.each i a s h1 h2).kH λb zs q=>by rw[fK (Et hc q)];exact q⟩
theorem DN.hid {P:Program}{w:World}{H:Hp}{d c:Addr}{kvs tF:KvN}(h:DN P w H c kvs)(hd:H d=some (nD P w d tF))(cd:c≠d):DN P w (hid d H) c kvs:=
 ⟨by rw[gS cd];exact h.at_,λq hq=>(h.keys q hq).kH λb zs z=>by rw[gS (Et hd z)];exact z⟩
theorem wz {H4:Hp}(s:fL H H4)(hd:H d=none):fL H (hid d H4):=λb o hb=>by
 have hbd:b≠d:=λz=>by rw[z,hd]at hb;cases hb
 rw[gS hbd];exact s _ _ hb
inductive rV (es:List EnS):Sta->List (Str×Int)->Prop
 |nil {s:Sta} :(s,none)∈es->rV es s []
 |ch {s s':Sta}{r:List (Str×Int)} :(s,some (s',none))∈es->rV es s' r->rV es s r
 |mv {s s':Sta}{k:Str×Int}{r:List (Str×Int)} :(s,some (s',some k))∈es->rV es s' r->rV es s (r ++ [k])
structure iL (es:List EnS):Prop where
 back:∀ (j:Nat) s s' b,es[j]? = some (s,some (s',b))->∃ i e,i<j/\es[i]? = some e/\e.1=s'
 ok:∀ (j:Nat) s s' k,es[j]? = some (s,some (s',some k))->PyData.strOk k.1=true
theorem iL.push {s':Sta}{b:Option (Str×Int)}(h:iL es)(hs:s'∈es.map (·.1))(hb:∀ k,b=some k->PyData.strOk k.1=true):iL (es ++ [(s,some (s',b))]):=by
 refine⟨λj t t' c hj=>?_,λj t t' k hj=>?_⟩
 ·by_cases hi:j<es.length
  ·rw[aq hi]at hj
   obtain⟨i,e,h1,h2,h3⟩:=h.back j t t' c hj
   exact⟨i,e,h1,by rw[aq (by omega)];exact h2,h3⟩
  ·have hj2:j=es.length:=by
    have:=(af.mp hj).1
    rw[ak,aP]at this
    omega
   rw[hj2,ay (ar _),bu]at hj
   have hj:(s,some (s',b))=(t,some (t',c)):=by simpa using hj
   injection hj with e1 e2
   injection e2 with e2
   injection e2 with e2 e3
   obtain⟨e,he,ee⟩:=ao.mp hs
   obtain⟨i,hi',ei⟩:=bF.mp he
   exact⟨i,e,by omega,by rw[aq hi',ag hi',ei],by rw[ee,e2]⟩
 ·by_cases hi:j<es.length
  ·rw[aq hi]at hj
   exact h.ok j t t' k hj
  ·have hj2:j=es.length:=by
    have:=(af.mp hj).1
    rw[ak,aP]at this
    omega
   rw[hj2,ay (ar _),bu]at hj
   have hj:(s,some (s',b))=(t,some (t',some k)):=by simpa using hj
   injection hj with e1 e2
   injection e2 with e2
   injection e2 with e2 e3
   exact hb k e3
theorem Cn {l:Ln}{t:List Int}{m:Mv}(h:m∈mvs l t):PyData.strOk m.1.1=true:=Ck l t m h
theorem iL.scan {l:Ln}{t:List Int}{w:Str} :∀ {ms:List Mv}{x:List EnS×List Sta},iL x.1->(t,w)∈x.1.map (·.1)->(∀ m∈ms,m∈mvs l t)->iL (ic t w ms x).1
 |[],_,h,_,_=>h
 |m::r,x,h,ht,hm=>by
  have h1:iL (lQ t w x m).1/\(t,w)∈(lQ t w x m).1.map (·.1):=by
   unfold lQ
   split
   ·exact⟨h.push ht λk e=>by cases e;exact Cn (hm m aC),by rw[av];exact bz _ ht⟩
   ·exact⟨h,ht⟩
  exact iL.scan (ms:=r) (x:=lQ t w x m) h1.1 h1.2 λy hy=>hm y (aw _ hy)
theorem iL.go {l:Ln}{W:List (List Int)}(km:∀ t∈W,∀ m∈mvs l t,m.2∈W){x:List EnS×List Sta}(R:RO W x)(h:iL x.1):∀ i,iL (goS l x i).1
 | 0=>h
 |i+1=>by
  have ih:=iL.go km R h i
  rw[goS]
  split
  ·rename_i s hs
   exact ih.scan ((RO.go km R i).sub s (au hs)) λm hm=>hm
  ·exact ih
theorem iL.Fh:∀ {ss:List Sta}{x:List EnS×List Sta},iL x.1->(∀ s∈ss,s∈x.1.map (·.1))->iL (ss.foldl jq x).1
 |[],_,h,_=>h
 |s::r,x,h,hs=>by
  have h1:iL (jq x s).1/\∀ t∈r,t∈(jq x s).1.map (·.1):=by
   unfold jq
   split
   ·exact⟨h.push (hs s aC) λk e=>(by cases e),λt ht=>by rw[av];exact bz _ (hs t (aw _ ht))⟩
   ·exact⟨h,λt ht=>hs t (aw _ ht)⟩
  exact iL.Fh (ss:=r) h1.1 h1.2
theorem iL.rnd {l:Ln}{W:List (List Int)}(km:∀ t∈W,∀ m∈mvs l t,m.2∈W){tr:List Int}(ht:tr∈W):∀ r,iL (rnd l tr r).1
 | 0=>⟨λj s s' b hj=>by
   have:(s,some (s',b))∈(r0 tr).1:=au hj
   simp[r0]at this,λj s s' b hj=>by
   have:(s,some (s',some b))∈(r0 tr).1:=au hj
   simp[r0]at this⟩
 |r+1=>by
  have R:=RO.rnd km ht r
  have RG:RO W (goF l (TL.rnd l tr r)):=RO.go km R 1000
  have h1:iL (goF l (TL.rnd l tr r)).1:=iL.go km R (iL.rnd km ht r) 1000
  have e:TL.rnd l tr (r+1)=chN (goF l (TL.rnd l tr r)).2 (goF l (TL.rnd l tr r)).1:=by rw[TL.rnd]
  rw[e]
  generalize goF l (TL.rnd l tr r)=gg at RG h1
  exact iL.Fh (x:=(gg.1,[])) h1 λs hs=>RG.sub s hs
theorem BK:∀ {es:List EnS}{cs:List Addr}{vs:List V},cs.length=es.length->vs.length=es.length->(es.map (·.1)).Nodup->∀ {j:Nat}{e:EnS}{v:V},es[j]? = some e->vs[j]? = some v->valN (kvN es cs vs) (kS e.1)=some v
 |[],_,_,_,_,_,_,_,_,h,_=>by simp at h
 |_::_,[],_,h,_,_,_,_,_,_,_=>by simp at h
 |_::_,_::_,[],_,h,_,_,_,_,_,_=>by simp at h
 |e0::es,c::cs,v0::vs,h1,h2,nd,0,e,v,he,hv=>by
  cases he;cases hv
  have e0':kvN (e0::es) (c::cs) (v0::vs)=(kS e0.1,c,v0)::kvN es cs vs:=rfl
  rw[e0',jF (p:=(kS e0.1,c,v0)) rfl]
 |e0::es,c::cs,v0::vs,h1,h2,nd,j+1,e,v,he,hv=>by
  have e0':kvN (e0::es) (c::cs) (v0::vs)=(kS e0.1,c,v0)::kvN es cs vs:=rfl
  rw[fC]at he hv
  rw[aZ,bq]at nd
  have hne:¬kS e0.1=kS e.1:=λz=>nd.1 (by rw[yf z];exact List.mem_map_of_mem (au he))
  rw[e0',jG (p:=(kS e0.1,c,v0)) hne]
  exact BK (by simpa using h1) (by simpa using h2) nd.2 he hv
theorem StN.get {us:List V}(h:StN P w K H d es cs us)(nd:(es.map (·.1)).Nodup){j:Nat}{e:EnS}{v:V}(he:es[j]? = some e)(hv:us[j]? = some v):valN (kvN es cs us) (kS e.1)=some v:=BK h.lc h.lv nd he hv
open PySem.W
section
variable {prog:Program}{w:World}{d:Addr}{o:Obj}{es:Array DictEntry}{ep:Nat}
theorem An {A:Around}(hh:A.handled=none)(hd:o.data = .dict es ep)(I d:Addr)(hne:d≠I):
  Walks prog w A I [I,d] [I] es.size (λi v=>∃ e:DictEntry,es[i]? = some e/\v=e.key) (λi h=>h.IsKeyIter I d i es.size ep/\h.get? d=some o) where
 sub:=λb hb=>by simp at hb;simp[hb]
 frame:=λ_ _ _ st hk=>⟨st.1.at λo e=>hk I (by simp) o e,hk d (by simp) _ st.2⟩
 item:=λi s Q E hi st hQ=>by
  obtain⟨e,hx⟩:∃ p,es[i]? = some p:=⟨es[i],by simp[hi]⟩
  refine wI st.1 st.2 hd hx λh' Gz hs'=>?_
  exact hQ e.key h' s.toks ⟨e,hx,rfl⟩ ⟨Gz,hs'.extBut d o hne st.2⟩ λb o hb e=>hs'.extBut b o (λh=>hb (by simp[h])) e
 done:=λs Q E st hQ=>yT hh st.1 st.2 hd (ar _) λh' he'=>hQ h' s.toks λb o hb e=>he' b o (λh=>hb (by simp[h])) e
 self:=λ_ _ _ _ st hQ=>wH st.1 hQ
theorem DV (lo:(d==sysModules)=false)(hx:o.ExactDict)(hd:o.data = .dict es ep):KdlSrc prog w "dict" d d es.size (λi v=>∃ e:DictEntry,es[i]? = some e/\v=e.key) (λh=>h.get? d=some o) where
 type:=λ_ hm=>nQ hm hx
 there:=λ_ hm=>⟨aA hm,aA hm⟩
 keep:=λ_ _ hm hk=>hk d (.inl rfl) o hm
 notList:=by decide
 notTuple:=by decide
 hint:=λ_ _ _ _ hm hq=>kdl_hint_dict (nQ hm hx) hq
 iter:=λ_ _ hh hm=>⟨_,_,(λ_ _ hq=>wJ lo hm hx hd hq),An hh hd _ d (aL (aA hm)),⟨⟨_,aR _ rfl,rfl,rfl⟩,ax _ hm⟩⟩
end
theorem v9:∀ {bs:List Addr}{vs:List Value},vs=bs.map Value.ref->Vals (bs.map V.ref) vs
 |[],_,h=>by rw[h];exact .nil
 |b::bs,_,h=>by rw[h];exact .cons rfl (v9 rfl)
theorem yq {X:Cx}(hc:X.calm=true):kG X (.type "list") (λxs H Q=>∃ (d:Addr) (kvs:List (List Key×V)),xs = [.ref d]/\H d=some (.dT kvs)/\
  ∀ l (bs:List Addr),H l=none->bs.length=kvs.length->(∀ (i:Nat) b p,bs[i]? = some b->kvs[i]? = some p->H b=some (.tup (p.1.map kV)))->Q (.ref l) (upd H l (.lst (bs.map V.ref)))):=by
 intro pins s σ H xs us Q I r h
 obtain⟨d,kvs,rfl,hH,q⟩:=h
 obtain⟨u,rfl,ru⟩:=vals1 r
 cases ru
 obtain⟨z,lo,xs,rel,o,es,ep,h1,h2,h3,h4,h5,h6⟩:=Fb I.hok hH
 have hsz:es.size=kvs.length:=by
  have:=cf List.length h4
  rw[aS,aa]at this
  rw[this,<-bX rel]
 refine kdl_call (DV lo h2 h3) (I.ok.hd hc) h1 (by rw[hsz];exact z) λh' tk acc c hk hg EY=>?_
 have el:acc.toList=(xs.map (·.2.1)).map Value.ref:=by
  refine ef λj=>?_
  have hl:acc.size=xs.length:=by rw[EY.1,hsz,bX rel]
  by_cases hj:j<xs.length
  ·have hx:acc[j]? = some acc[j]:=bD (by omega)
   obtain⟨e,he,hv⟩:=EY.2 j _ hx
   rw[<-bC,h4,ah,ag hj]at he
   have he:entryOfKey (tupleKind (gu X.prog X.w)) xs[j]=e:=by simpa using he
   rw[bC,hx,hv,<-he,bo,ah,ag hj]
   rfl
  ·rw[bg (by rw[aS];omega),bg (by rw[aa,aa];omega)]
 refine⟨.ref s.heap.objs.size,_,I.laid (t':=tk) (o:=.lst ((xs.map (·.2.1)).map V.ref)) (λb ob q=>hk b ob q) (ar _) ⟨?_,acc.toList,c,v9 el,?_⟩,rfl,q _ (xs.map (·.2.1)) I.fresh ?_ λi b p hb hp=>?_⟩
 ·rw[aa,aa,<-bX rel];exact z
 ·rw[hg,Array.toArray_toList]
 ·rw[aa,bX rel]
 ·obtain⟨y,hy,e1,e2,e3⟩:=pW rel hp
  rw[ah,hy]at hb
  have hb:y.2.1=b:=by simpa using hb
  rw[<-hb];exact e2
end TL
namespace TL
open PySem PySem.Spec PyProof.Rows L2 TS
end TL
namespace TL
open PySem L2 PyProof.Rows
theorem Ba {l:Ln}{ns:List Int}(P:List Int->Prop)(h0:P ns)(hs:∀ t m,P t->m∈mvs l t->P m.2):∀ i,∀ e∈fR l ns i,P e.1
 | 0=>λe he=>by have z:e=(ns,none):=(by simpa [fR]using he);rw[z];exact h0
 |i+1=>by
  have ih:=Ba P h0 hs i
  rw[fR]
  split
  ·rename_i e0 he0
   have r0:=ih e0 (au he0)
   have gen:∀ (ms:List Mv) (o:List Ent),(∀ m∈ms,m∈mvs l e0.1)->(∀ e∈o,P e.1)->∀ e∈gW e0.1 ms o,P e.1:=by
    intro ms
    induction ms with
    |nil=>intro o _ h;exact h
    |cons m ms ihm=>
     intro o hm h
     refine ihm (nF e0.1 o m) (λx hx=>hm x (aw _ hx)) ?_
     unfold nF
     split
     ·exact h
     ·intro e he
      rcases aD.mp he with z |z
      ·exact h e z
      ·rw[bH.mp z]
       exact hs _ m r0 (hm m aC)
   exact gen _ _ (λm hm=>hm) ih
  ·exact ih
open PySem.Spec
noncomputable abbrev sts (x:List EnS×List Sta):List Sta:=x.1.map (·.1)
theorem md {α β:Type}{f:α->β}{a b:List α}(h:a <+:b){s:β}(hs:s∈a.map f):s∈b.map f:=by
 obtain⟨c,rfl⟩:=h
 rw[av];exact bz _ hs
theorem Fy {t:List Int}{w:Str}{x:List EnS×List Sta}{m:Mv}(hm:m.1.1=w):(m.2,w)∈sts (lQ t w x m):=by
 unfold lQ
 split
 ·show(m.2,w)∈(x.1 ++ [((m.2,w),some ((t,w),some m.1))]).map (·.1)
  rw[av];exact az _ (by simp)
 ·rename_i c
  exact aJ λz=>c ⟨hm,z⟩
theorem wx {t:List Int}{w:Str} :∀ {ms:List Mv}{x:List EnS×List Sta},∀ m∈ms,m.1.1=w->(m.2,w)∈sts (ic t w ms x)
 |m0::r,x,m,hm,hw=>by
  rcases aE.mp hm with e |e
  ·subst e
   exact md (mq t w r (lQ t w x m)).2 (Fy hw)
  ·exact wx (ms:=r) (x:=lQ t w x m0) m e hw
theorem E3 (l:Ln)(x:List EnS×List Sta)(i:Nat):(goS l x i).2 <+:(goS l x (i+1)).2/\(goS l x i).1 <+:(goS l x (i+1)).1:=by
 rw[goS]
 split
 ·exact mq _ _ _ _
 ·exact⟨bO _,bO _⟩
theorem vn (l:Ln)(x:List EnS×List Sta):∀ i j,j<i->∀ s,(goS l x i).2[j]? = some s->∀ m∈mvs l s.1,m.1.1=s.2->(m.2,s.2)∈sts (goS l x i)
 | 0,j,h,_,_,_,_,_=>by omega
 |i+1,j,h,s,hs,m,hm,hw=>by
  have hp:=E3 l x i
  by_cases hj:j<(goS l x i).2.length
  ·have hs':(goS l x i).2[j]? = some s:=by
    obtain⟨c,hc⟩:=hp.1
    rw[<-hc,aq hj]at hs
    exact hs
   by_cases e:j=i
   ·subst e
    rw[zF hs']
    exact wx m hm hw
   ·exact md hp.2 (vn l x i j (by omega) s hs' m hm hw)
  ·have hn:(goS l x i).2[i]? = none:=bg (by omega)
   have e:goS l x (i+1)=goS l x i:=by rw[goS,hn]
   rw[e]at hs
   exact absurd (af.mp hs).1 hj
theorem AU {l:Ln}{x:List EnS×List Sta}(hl:(goF l x).2.length<=1000):∀ s∈(goF l x).2,∀ m∈mvs l s.1,m.1.1=s.2->(m.2,s.2)∈sts (goF l x):=λs hs m hm hw=>by
 obtain⟨j,hj⟩:=eA.mp hs
 have hlt:=(af.mp hj).1
 exact vn l x 1000 j (aU hlt hl) s hj m hm hw
theorem Fx {t:List Int}{w:Str}{x:List EnS×List Sta}{m:Mv}{A:Sta->Prop}(h:∀ s∈sts x,A s\/s∈x.2):∀ s∈sts (lQ t w x m),A s\/s∈(lQ t w x m).2:=by
 unfold lQ
 split
 ·intro s hs
  have hs:s∈(x.1 ++ [((m.2,w),some ((t,w),some m.1))]).map (·.1):=hs
  rw[av]at hs
  rcases aD.mp hs with z |z
  ·exact(h s z).imp id λy=>bz _ y
  ·exact .inr (az _ (by simpa using z))
 ·exact h
theorem wu {t:List Int}{w:Str}{A:Sta->Prop} :∀ {ms:List Mv}{x:List EnS×List Sta},(∀ s∈sts x,A s\/s∈x.2)->∀ s∈sts (ic t w ms x),A s\/s∈(ic t w ms x).2
 |[],_,h=>h
 |m::r,x,h=>wu (ms:=r) (x:=lQ t w x m) (Fx h)
theorem yk {l:Ln}{x:List EnS×List Sta}{A:Sta->Prop}(h:∀ s∈sts x,A s\/s∈x.2):∀ i,∀ s∈sts (goS l x i),A s\/s∈(goS l x i).2
 | 0=>h
 |i+1=>by
  rw[goS]
  split
  ·exact wu (yk h i)
  ·exact yk h i
theorem Fi (x:List EnS×List Sta)(s:Sta):x.1 <+:(jq x s).1/\x.2 <+:(jq x s).2:=by
 unfold jq
 split
 ·exact⟨cX _ _,cX _ _⟩
 ·exact⟨bO _,bO _⟩
theorem vz:∀ (ss:List Sta) (x:List EnS×List Sta),x.1 <+:(ss.foldl jq x).1
 |[],_=>bO _
 |s::r,x=>(Fi x s).1.trans (vz r (jq x s))
theorem zR:∀ {ss:List Sta}{x:List EnS×List Sta},∀ s∈ss,(s.1,ow s.2)∈sts (ss.foldl jq x)
 |s0::r,x,s,hs=>by
  rcases aE.mp hs with e |e
  ·subst e
   have h1:(s.1,ow s.2)∈sts (jq x s):=by
    unfold jq
    split
    ·show(s.1,ow s.2)∈(x.1 ++ [(((s.1,ow s.2),some (s,none)):EnS)]).map (λe:EnS=>e.1)
     rw[av];exact az _ (by simp)
    ·rename_i c
     exact aJ c
   exact md (vz r (jq x s)) h1
  ·exact zR (ss:=r) (x:=jq x s0) s e
theorem zQ {A:Sta->Prop} :∀ {ss:List Sta}{x:List EnS×List Sta},(∀ s∈sts x,A s\/s∈x.2)->∀ s∈sts (ss.foldl jq x),A s\/s∈(ss.foldl jq x).2
 |[],_,h=>h
 |s0::r,x,h=>by
  refine zQ (ss:=r) (x:=jq x s0) ?_
  unfold jq
  split
  ·intro s hs
   have hs:s∈(x.1 ++ [(((s0.1,ow s0.2),some (s0,none)):EnS)]).map (λe:EnS=>e.1):=hs
   rw[av]at hs
   rcases aD.mp hs with z |z
   ·exact(h s z).imp id λy=>bz _ y
   ·exact .inr (az _ (by simpa using z))
  ·exact h
structure RC (l:Ln)(tr:List Int)(r:Nat):Prop where
 all:∀ s∈sts (rnd l tr r),(cnt l tr r s).isSome=true\/s∈(rnd l tr r).2
 km:∀ s,(cnt l tr r s).isSome=true->s∈sts (rnd l tr r)/\(∀ m∈mvs l s.1,m.1.1=s.2->(m.2,s.2)∈sts (rnd l tr r))/\(s.1,ow s.2)∈sts (rnd l tr r)
 st:∀ w,isW w->(tr,w)∈sts (rnd l tr r)
theorem RC.of {l:Ln}{W:List (List Int)}(km:∀ t∈W,∀ m∈mvs l t,m.2∈W){tr:List Int}(ht:tr∈W)(hW:W.length<=300):∀ r,RC l tr r
 | 0=>⟨λs hs=>.inr hs,λs hs=>by simp[cnt]at hs,λw hw=>by
   have:(tr,w)∈ [(tr,onW),(tr,jg)]:=by
    rcases hw with e |e
    ·rw[e];exact aC
    ·rw[e];exact aw _ aC
   exact this⟩
 |r+1=>by
  have ih:=RC.of km ht hW r
  have R:=RO.rnd km ht r
  have RG:RO W (goF l (rnd l tr r)):=RO.go km R 1000
  have gl:=RG.len
  have gc:∀ s∈(goF l (rnd l tr r)).2,∀ m∈mvs l s.1,m.1.1=s.2->(m.2,s.2)∈sts (goF l (rnd l tr r)):=AU (by omega)
  have gn:∀ s∈sts (goF l (rnd l tr r)),(cnt l tr r s).isSome=true\/s∈(goF l (rnd l tr r)).2:=yk ih.all 1000
  have gp:(rnd l tr r).1 <+:(goF l (rnd l tr r)).1:=yj l (rnd l tr r) 1000
  have er:rnd l tr (r+1)=chN (goF l (rnd l tr r)).2 (goF l (rnd l tr r)).1:=by rw[rnd]
  have ec:∀ s,cnt l tr (r+1) s=open Classical in if s∈(goF l (rnd l tr r)).2 then some r else cnt l tr r s:=λs=>by rw[cnt]
  generalize goF l (rnd l tr r)=gg at RG gl gc gn gp er ec
  have cp:gg.1 <+:(rnd l tr (r+1)).1:=by rw[er];exact vz gg.2 (gg.1,[])
  refine⟨λs hs=>?_,λs hs=>?_,λw hw=>md (gp.trans cp) (ih.st w hw)⟩
  ·have h2:∀ s∈sts (rnd l tr (r+1)),s∈sts gg\/s∈(rnd l tr (r+1)).2:=by
    rw[er]
    exact zQ (x:=(gg.1,[])) λs hs=>.inl hs
   rcases h2 s hs with z |z
   ·left
    rw[ec s]
    by_cases hm:s∈gg.2
    ·rw[aQ hm];rfl
    ·rw[aG hm];exact(gn s z).resolve_right hm
   ·exact .inr z
  ·rw[ec s]at hs
   by_cases hm:s∈gg.2
   ·refine⟨md cp (RG.sub s hm),λm hm' hw=>md cp (gc s hm m hm' hw),?_⟩
    rw[er];exact zR s hm
   ·rw[aG hm]at hs
    obtain⟨h1,h2,h3⟩:=ih.km s hs
    exact⟨md (gp.trans cp) h1,λm hm' hw=>md (gp.trans cp) (h2 m hm' hw),md (gp.trans cp) h3⟩
theorem RC.full {l:Ln}(ok:gj l){tr:List Int}{r:Nat}(h:RC l tr r)(he:(rnd l tr r).2 = [])(i:Nat):∀ e∈fR l tr i,∀ w,isW w->(e.1,w)∈sts (rnd l tr r)/\(cnt l tr r (e.1,w)).isSome=true:=by
 have al:∀ s∈sts (rnd l tr r),(cnt l tr r s).isSome=true:=λs hs=>(h.all s hs).resolve_right (by rw[he];simp)
 have key:=Ba (l:=l) (ns:=tr) (λt=>∀ w,isW w->(t,w)∈sts (rnd l tr r)) h.st (λt m ht hm w hw=>by
  have hmw:isW m.1.1:=(CI ok hm).1
  have h1:=(h.km _ (al _ (ht m.1.1 hmw))).2.1 m hm rfl
  have h2:=(h.km _ (al _ h1)).2.2
  have hw2:w=m.1.1\/w=ow m.1.1:=by
   have hn:¬Str.ofString "back" = Str.ofString "on" :=by decide +kernel
   unfold ow
   rcases hw with e |e<;>rcases hmw with f |f
   ·exact .inl (by rw[e,f])
   ·exact .inr (by rw[e,f,aG hn])
   ·exact .inr (by rw[e,f,aQ rfl])
   ·exact .inl (by rw[e,f])
  rcases hw2 with e |e
  ·rw[e];exact h1
  ·rw[e];exact h2) i
 exact λe he' w hw=>⟨key e he' w hw,al _ (key e he' w hw)⟩
end TL
namespace TH
open PySem
noncomputable def rot (z:Nat):Nat:=(z*2 ^ 31)%2 ^ 64+z/2 ^ 33
noncomputable def stp (a h:Nat):Nat:=(rot ((a+h*14029467366897019727)%2 ^ 64)*11400714785074694791)%2 ^ 64
theorem uA (z:Nat):rot z=(z%2 ^ 33)*2 ^ 31+z/2 ^ 33:=by unfold rot;omega
theorem HG (a h:Nat):stp a h<2 ^ 64:=cO _ (by decide)
theorem Gh {u v p q:Nat}(hq:p*q%2 ^ 64=1)(hu:u<2 ^ 64)(hv:v<2 ^ 64)(h:u*p%2 ^ 64=v*p%2 ^ 64):u=v:=by
 have k:∀ w,w<2 ^ 64->w*p%2 ^ 64*q%2 ^ 64=w:=λw hw=>by
  rw[Nat.mod_mul_mod,bU,Nat.mul_mod,hq,Nat.mul_one,Nat.mod_mod,eC hw]
 rw[<-k u hu,<-k v hv,h]
theorem DM {z:Nat}(h:z<2 ^ 64):rot z<2 ^ 64:=by rw[uA];omega
theorem F1 {u v:Nat}(hu:u<2 ^ 64)(hv:v<2 ^ 64)(h:rot u=rot v):u=v:=by rw[uA,uA]at h;omega
theorem FW {a h a' h':Nat}(e:stp a h=stp a' h'):(a+h*14029467366897019727)%2 ^ 64=(a'+h'*14029467366897019727)%2 ^ 64:=
 F1 (cO _ (by decide)) (cO _ (by decide)) (Gh (q:=614540362697595703) (by decide) (DM (cO _ (by decide))) (DM (cO _ (by decide))) e)
noncomputable def dif (dx c1 c2:Int):Int:=(dx*14029467366897019727)%2 ^ 64%2 ^ 33*2 ^ 31+(dx*14029467366897019727)%2 ^ 64/2 ^ 33+c1-c2*2 ^ 31
noncomputable def chk (dx c1 c2:Int):Bool:=decide (80<=(dif dx c1 c2*11400714785074694791*839798700976720815)%2 ^ 64)&&decide ((dif dx c1 c2*11400714785074694791*839798700976720815)%2 ^ 64<=2 ^ 64-80)
noncomputable def QO:Bool:=(List.range 159).all λn=>n==79||([(0,0),(0,1),(1,0),(1,1)].all λc=>chk ((n:Int)-79) c.1 c.2)
theorem GK:QO=true:=by decide +kernel
theorem Jc {dx c1 c2:Int}(h0:dx≠0)(h1: -79<=dx)(h2:dx<=79)(d1:0<=c1/\c1<=1)(d2:0<=c2/\c2<=1):chk dx c1 c2=true:=by
 have h:=cx.mp GK (dx+79).toNat (by rw[br];omega)
 have h:=(Bool.or_eq_true _ _).mp h
 rcases h with h |h
 ·have:(dx+79).toNat=79:=by simpa using h
  omega
 ·have e:(((dx+79).toNat:Nat):Int)-79=dx:=by omega
  rw[e]at h
  have h:=cx.mp h (c1,c2) (by
   obtain⟨d1,d1'⟩:=d1;obtain⟨d2,d2'⟩:=d2
   rcases(by omega:c1=0\/c1=1)with rfl |rfl<;>rcases(by omega:c2=0\/c2=1)with rfl |rfl<;>simp)
  exact h
theorem DP {zl zh wl wh dl dh e:Int}(h1:0<=zl/\zl<2 ^ 33)(h2:0<=wl/\wl<2 ^ 33)(h3:0<=dl/\dl<2 ^ 33)(g1:0<=zh/\zh<2 ^ 31)(g2:0<=wh/\wh<2 ^ 31)(g3:0<=dh/\dh<2 ^ 31)
  (h:wl+wh*2 ^ 33=zl+zh*2 ^ 33+(dl+dh*2 ^ 33)-e*2 ^ 64):
  ∃ c1 c2:Int,(0<=c1/\c1<=1)/\(0<=c2/\c2<=1)/\wl*2 ^ 31+wh=zl*2 ^ 31+zh+(dl*2 ^ 31+dh+c1-c2*2 ^ 31)-c1*2 ^ 64:=by
 have he:wl-zl-dl=(zh+dh-wh-e*2 ^ 31)*2 ^ 33:=by omega
 generalize hq:zh+dh-wh-e*2 ^ 31=q at he
 have hq1:q=0\/q = -1:=by omega
 have he2:e=0\/e=1:=by omega
 rcases hq1 with rfl |rfl
 ·refine⟨0,e,by omega,by omega,by omega⟩
 ·refine⟨1,e,by omega,by omega,by omega⟩
theorem F2 {z z':Nat}{dx:Int}(hz:z<2 ^ 64)(hz':z'<2 ^ 64)(h:((z':Int)-z-dx*14029467366897019727)%2 ^ 64=0):
  ∃ c1 c2 e:Int,(0<=c1/\c1<=1)/\(0<=c2/\c2<=1)/\(rot z':Int)=rot z+dif dx c1 c2-e*2 ^ 64:=by
 unfold dif
 have hD1:0<=(dx*14029467366897019727)%2 ^ 64:=dg _ (by decide)
 have hD2:(dx*14029467366897019727)%2 ^ 64<2 ^ 64:=cF _ (by decide)
 have hD:∃ e:Int,(z':Int)=z+(dx*14029467366897019727)%2 ^ 64-e*2 ^ 64:=by
  refine⟨-(((z':Int)-z-dx*14029467366897019727)/2 ^ 64+dx*14029467366897019727/2 ^ 64),?_⟩
  have a1:=dj ((z':Int)-z-dx*14029467366897019727) (2 ^ 64)
  have a2:=dj (dx*14029467366897019727) (2 ^ 64)
  generalize ((z':Int)-z-dx*14029467366897019727)/2 ^ 64=q1 at *
  generalize (dx*14029467366897019727)/2 ^ 64=q2 at *
  generalize (dx*14029467366897019727)%2 ^ 64=D at *
  rw[h]at a1
  omega
 generalize (dx*14029467366897019727)%2 ^ 64=D at *
 obtain⟨e,hD⟩:=hD
 obtain⟨c1,c2,k1,k2,k⟩:=DP (zl:=(z:Int)%2 ^ 33) (zh:=(z:Int)/2 ^ 33) (wl:=(z':Int)%2 ^ 33) (wh:=(z':Int)/2 ^ 33) (dl:=D%2 ^ 33) (dh:=D/2 ^ 33) (e:=e) (by omega) (by omega) (by omega) (by omega) (by omega) (by omega) (by
  have a1:=dj (z':Int) (2 ^ 33)
  have a2:=dj (z:Int) (2 ^ 33)
  have a3:=dj D (2 ^ 33)
  generalize (z':Int)%2 ^ 33=v1 at *
  generalize (z':Int)/2 ^ 33=v2 at *
  generalize (z:Int)%2 ^ 33=v3 at *
  generalize (z:Int)/2 ^ 33=v4 at *
  generalize D%2 ^ 33=v5 at *
  generalize D/2 ^ 33=v6 at *
  clear hD1 hD2 h hz hz'
  omega)
 refine⟨c1,c2,c1,k1,k2,?_⟩
 rw[uA,uA]
 have e1:((z'%2 ^ 33*2 ^ 31+z'/2 ^ 33:Nat):Int)=(z':Int)%2 ^ 33*2 ^ 31+(z':Int)/2 ^ 33:=by rw[Int.natCast_add,Int.natCast_mul,Int.natCast_emod,Int.natCast_ediv];rfl
 have e2:((z%2 ^ 33*2 ^ 31+z/2 ^ 33:Nat):Int)=(z:Int)%2 ^ 33*2 ^ 31+(z:Int)/2 ^ 33:=by rw[Int.natCast_add,Int.natCast_mul,Int.natCast_emod,Int.natCast_ediv];rfl
 rw[e1,e2]
 exact k
theorem BA {a b:Nat}(h:a%2 ^ 64=b%2 ^ 64):∃ k:Int,(a:Int)=b+k*2 ^ 64:=⟨(a/2 ^ 64:Nat)-(b/2 ^ 64:Nat),by
 have h1:=Nat.mod_add_div a (2 ^ 64)
 have h2:=Nat.mod_add_div b (2 ^ 64)
 generalize a/2 ^ 64=q at *
 generalize b/2 ^ 64=r at *
 omega⟩
theorem mod_is (a:Nat):∃ k:Int,((a%2 ^ 64:Nat):Int)=a+k*2 ^ 64:=BA (by rw[Nat.mod_mod])
theorem Ot (p q m r k k1 k2 y y':Int)(hk:r*p+k1*m+y*q=r*p+k2*m+y'*q+k*m):(y-y')*q=0+(k+k2-k1)*m:=by
 rw[dC,dC,Int.add_mul]
 omega
theorem Oq (p q m r k k1 k2 y y' d e:Int)(hk:r*p+k1*m+y*q=(r+d-e*m)*p+k2*m+y'*q+k*m):(y-y')*q=d*p+(k+k2-k1-e*p)*m:=by
 rw[dC,Int.add_mul]at hk
 rw[dC,dC,dC,Int.add_mul,Int.mul_right_comm e p m]
 omega
theorem Kd (q m i t u d k:Int)(hq:q*i=1+t*m)(h:u*q=d+k*m):u=d*i+(k*i-u*t)*m:=by
 have h2:u*(q*i)=(d+k*m)*i:=by rw[<-Int.mul_assoc,h]
 rw[hq,Int.mul_add,Int.mul_one,Int.add_mul,<-Int.mul_assoc]at h2
 rw[dC,Int.mul_right_comm k i m]
 omega
theorem Oo (a q m x x' k3 k4:Int):a+x'*q+k4*m-(a+x*q+k3*m)-(x'-x)*q=(k4-k3)*m:=by
 rw[dC,dC]
 omega
theorem nn (a b:Nat):((a+b*14029467366897019727:Nat):Int)=a+b*14029467366897019727:=by omega
theorem mm (a:Nat):((a*11400714785074694791:Nat):Int)=a*11400714785074694791:=by omega
theorem two {a x y x' y':Nat}(hx:x<80)(hy:y<80)(hx':x'<80)(hy':y'<80)(h:stp (stp a x) y=stp (stp a x') y'):x=x'/\y=y':=by
 obtain⟨k,hk⟩:=BA (FW h)
 have hz:(a+x*14029467366897019727)%2 ^ 64<2 ^ 64:=cO _ (by decide)
 have hz':(a+x'*14029467366897019727)%2 ^ 64<2 ^ 64:=cO _ (by decide)
 rw[nn,nn]at hk
 unfold stp at hk
 obtain⟨k1,e1⟩:=mod_is (rot ((a+x*14029467366897019727)%2 ^ 64)*11400714785074694791)
 obtain⟨k2,e2⟩:=mod_is (rot ((a+x'*14029467366897019727)%2 ^ 64)*11400714785074694791)
 rw[e1,e2,mm,mm]at hk
 clear e1 e2
 have iv:(14029467366897019727:Int)*839798700976720815=1+638699622168397319*2 ^ 64:=by decide
 by_cases c:x=x'
 ·subst c
  refine⟨rfl,?_⟩
  generalize (rot ((a+x*14029467366897019727)%2 ^ 64):Int)=r at hk
  have h4:=Kd _ _ _ _ _ _ _ iv (Ot _ _ _ _ _ _ _ _ _ hk)
  generalize (k+k2-k1)*839798700976720815-((y:Int)-y')*638699622168397319=w at h4
  clear hk hz hz' h iv
  omega
 exfalso
 obtain⟨c1,c2,e,d1,d2,hr⟩:=F2 (dx:=(x':Int)-x) hz hz' (by
  obtain⟨k3,e3⟩:=mod_is (a+x*14029467366897019727)
  obtain⟨k4,e4⟩:=mod_is (a+x'*14029467366897019727)
  rw[e3,e4,nn,nn,Oo]
  exact Int.mul_emod_left _ _)
 have kk:=Jc (dx:=(x':Int)-x) (by omega) (by omega) (by omega) d1 d2
 unfold chk at kk
 rw[dF,cw,cw]at kk
 clear h hz hz'
 have key:∀ r r' d:Int,r*11400714785074694791+k1*2 ^ 64+(y:Int)*14029467366897019727=r'*11400714785074694791+k2*2 ^ 64+y'*14029467366897019727+k*2 ^ 64->r'=r+d-e*2 ^ 64->80<=(d*11400714785074694791*839798700976720815)%2 ^ 64/\(d*11400714785074694791*839798700976720815)%2 ^ 64<=2 ^ 64-80->False:=?_
 ·exact key _ _ _ hk hr kk
 clear kk hr hk
 intro r r' d hk hr kk
 subst hr
 have h4:=Kd _ _ _ _ _ _ _ iv (Oq _ _ _ _ _ _ _ _ _ _ _ hk)
 generalize (k+k2-k1-e*11400714785074694791)*839798700976720815-((y:Int)-y')*638699622168397319=w at h4
 generalize d*11400714785074694791*839798700976720815=g at kk h4
 clear hk iv c
 omega
open TL L2
noncomputable def hn (h:Int):Nat:=(h%((2 ^ 64:Nat):Int)).toNat
noncomputable def ac (ns:List Int):Nat:=ns.foldl (λa h=>stp a (hn h)) 2870177450012600261
theorem rE {u:Int}(hu:0<=u/\u<80):hn u=u.toNat:=by unfold hn;rw[Int.emod_eq_of_lt hu.1 (by omega)]
theorem rQ (p:List Int)(x:Int):ac (p ++ [x])=stp (ac p) (hn x):=by unfold ac;rw[cM,eR,List.foldl_nil]
noncomputable def fa (ns:List Int):Nat:=(ac ns+(ns.length ^^^ (2870177450012600261 ^^^ 3527539)))%2 ^ 64
noncomputable def fh (a:Nat):Int:=if a==2 ^ 64-1 then 1546275796 else if a<2 ^ 63 then(a:Int)else(a:Int)-((2 ^ 64:Nat):Int)
theorem fold_eq (ns:List Int):ns.foldl (λacc h=>((((acc+(h%((2 ^ 64:Nat):Int)).toNat*14029467366897019727)%2 ^ 64*2 ^ 31)%2 ^ 64+(acc+(h%((2 ^ 64:Nat):Int)).toNat*14029467366897019727)%2 ^ 64/2 ^ 33)*11400714785074694791)%2 ^ 64) 2870177450012600261=ac ns:=by
 unfold ac stp rot hn
 rfl
theorem GV (ns:List Int):Builtin.Tuple.tupleHashOf ns=fh (fa ns):=by
 unfold Builtin.Tuple.tupleHashOf fh fa
 rw[<-fold_eq]
theorem Hr:∀ (ns:List Int),ac ns<2 ^ 64:=λns=>by
 rcases List.eq_nil_or_concat ns with rfl |⟨p,x,rfl⟩
 ·unfold ac;rw[List.foldl_nil];decide
 ·rw[List.concat_eq_append,rQ];exact HG _ _
theorem IW {a b:Nat}(ha:a<2 ^ 64)(hb:b<2 ^ 64)(na:a≠2 ^ 64-1)(nb:b≠2 ^ 64-1)(h:reduceHash (fh a)=reduceHash (fh b)):a=b:=by
 have k:∀ c:Nat,c<2 ^ 64->c≠2 ^ 64-1->reduceHash (fh c)=if c<2 ^ 63 then(c:Int)else(c:Int)-((2 ^ 64:Nat):Int):=λc hc nc=>by
  unfold fh
  rw[aG (by simpa using nc)]
  unfold reduceHash
  split<;>rename_i q
  all_goals rw[aQ (by rw[dF,cw,cw];omega),aG (by rw[fc];omega)]
 rw[k a ha na,k b hb nb]at h
 split at h<;>split at h<;>omega
theorem K6 {s t:List Int}(hl:s.length=t.length)(hf:fa s=fa t):ac s=ac t:=by
 have h1:=Hr s
 have h2:=Hr t
 unfold fa at hf
 rw[hl]at hf
 generalize (t.length ^^^ (2870177450012600261 ^^^ 3527539))=c at hf
 omega
theorem EJ {s t p:List Int}{x y x' y':Int}(hs:s=p ++ [x,y])(ht:t=p ++ [x',y'])(h1:0<=x/\x<80)(h2:0<=y/\y<80)(h3:0<=x'/\x'<80)(h4:0<=y'/\y'<80)(h:ac s=ac t):s=t:=by
 have e:∀ u v:Int,p ++ [u,v]=(p ++ [u]) ++ [v]:=λu v=>by simp
 rw[hs,ht,e,e,rQ,rQ,rQ,rQ]at h
 rw[rE h1,rE h2,rE h3,rE h4]at h
 obtain⟨a,b⟩:=two (by omega) (by omega) (by omega) (by omega) h
 rw[hs,ht,show x=x' by omega,show y=y' by omega]
theorem we {s:List Int}{n:Nat}(h:s.length=n+2):∃ x y,s=s.take n ++ [x,y]:=by
 have e:=cG n s
 have l:(s.drop n).length=2:=by rw[bA];omega
 match q:s.drop n,l with
 |[x,y],_=>exact⟨x,y,by rw[q]at e;exact e.symm⟩
theorem zU {l:Ln}(ok:gj l)(h24:l.2.length<=24){n:Nat}(hn:n<=4):(nE l n).length<=3840:=by
 have ha:(tI l).length<=48:=by unfold tI;rw[ak,aa,aa];omega
 have h1:(nE l 1).length<=80:=by simp only[nE,AY,aa,ck];have:=ok.most;omega
 have st:∀ k,(nE l (k+2)).length=(tI l).length*(nE l k).length:=λk=>by
  simp only[nE]
  rw[List.length_flatMap]
  have e1:(tI l).map (λa=>((nE l k).map λr=>a.1::a.2::r).length)=(tI l).map λ_=>(nE l k).length:=eV λa _=>by rw[aa]
  rw[e1,List.map_const',List.sum_replicate_nat]
 have h0:(nE l 0).length=1:=rfl
 match n,hn with
 | 0,_=>rw[h0];decide
 | 1,_=>omega
 | 2,_=>rw[st 0,h0];omega
 | 3,_=>rw[st 1];exact bw (Nat.mul_le_mul ha h1) (by decide)
 | 4,_=>rw[st 2,st 0,h0];exact bw (Nat.mul_le_mul ha (Nat.mul_le_mul ha (ar 1))) (by decide)
theorem nodup_map_on {α β:Type}{f:α->β} :∀ {xs:List α},xs.Nodup->(∀ a∈xs,∀ b∈xs,f a=f b->a=b)->(xs.map f).Nodup
 |[],_,_=>cz
 |a::r,nd,h=>by
  rw[bq]at nd
  rw[aZ,bq]
  refine⟨λz=>?_,nodup_map_on nd.2 λx hx y hy=>h x (aw _ hx) y (aw _ hy)⟩
  obtain⟨b,hb,e⟩:=ao.mp z
  exact nd.1 (by rw[h a aC b (aw _ hb) e.symm];exact hb)
theorem Bb {l:Ln}{t:List Int}(T:jf l t)(k:Nat):(∀ e∈t.take k,0<=e/\e<2*l.1)/\∀ (i:Nat) x y,(t.take k)[i]? = some x->(t.take k)[i+1]? = some y->y∈jn l.2 (oth x):=by
 refine⟨λe he=>T.ends e (dB he),λi x y hx hy=>T.ch i x y ?_ ?_⟩
 ·rw[List.getElem?_take]at hx;split at hx
  ·exact hx
  ·cases hx
 ·rw[List.getElem?_take]at hy;split at hy
  ·exact hy
  ·cases hy
theorem E7 {l:Ln}(ok:gj l)(h24:l.2.length<=24){n:Nat}(hn:n<=6){ts:List (List Int)}(nd:ts.Nodup)(h:∀ t∈ts,jf l t/\t.length=n){hh:Int}(hs:∀ t∈ts,reduceHash (Builtin.Tuple.tupleHashOf t)=hh):ts.length<=9900:=by
 by_cases c:n<=4
 ·have h1:=mM nd (l2:=nE l n) λt ht=>rP ok n t (h t ht).2 (h t ht).1.ends (h t ht).1.ch
  have:=zU ok h24 c
  omega
 obtain⟨k,rfl⟩:∃ k,n=k+2:=⟨n-2,by omega⟩
 have small:∀ t∈ts,∀ e∈t,0<=e/\e<80:=λt ht e he=>by
  have:=(h t ht).1.ends e he
  have:=ok.most
  omega
 have h1:=nodup_map_on (f:=λt:List Int=>(t.take k,decide (fa t=2 ^ 64-1))) nd λs hs' t ht e=>by
  have e1:s.take k=t.take k:=cf Prod.fst e
  have e2:decide (fa s=2 ^ 64-1)=decide (fa t=2 ^ 64-1):=cf Prod.snd e
  have hl:s.length=t.length:=(h s hs').2.trans (h t ht).2.symm
  have hf:fa s=fa t:=by
   by_cases q:fa s=2 ^ 64-1
   ·rw[bB q]at e2
    rw[q];exact(fo e2.symm).symm
   ·rw[aW q]at e2
    have q2:=of_decide_eq_false e2.symm
    refine IW (cO _ (by decide)) (cO _ (by decide)) q q2 ?_
    rw[<-GV,<-GV,hs s hs',hs t ht]
  obtain⟨x,y,es⟩:=we (h s hs').2
  obtain⟨x',y',et⟩:=we (h t ht).2
  rw[<-e1]at et
  have m1:x∈s:=by rw[es];simp
  have m2:y∈s:=by rw[es];simp
  have m3:x'∈t:=by rw[et];simp
  have m4:y'∈t:=by rw[et];simp
  exact EJ es et (small s hs' x m1) (small s hs' y m2) (small t ht x' m3) (small t ht y' m4) (K6 hl hf)
 have h2:=mM h1 (l2:=(nE l k).map (λp=>(p,true))++(nE l k).map λp=>(p,false)) λz hz=>by
  obtain⟨t,ht,rfl⟩:=ao.mp hz
  have hm:=rP ok k (t.take k) (by rw[aM,(h t ht).2];omega) (Bb (h t ht).1 k).1 (Bb (h t ht).1 k).2
  rw[aD]
  cases q:decide (fa t=2 ^ 64-1)with
  |true=>exact .inl (ao.mpr ⟨_,hm,rfl⟩)
  |false=>exact .inr (ao.mpr ⟨_,hm,rfl⟩)
 rw[aa,ak,aa,aa]at h2
 have:=zU ok h24 (n:=k) (by omega)
 omega
noncomputable def hK (s:List Int):Int:=reduceHash (Builtin.Tuple.tupleHashOf (s.map hashInt))
noncomputable def Cls (ss:List (List Int)):Prop:=∀ h:Int,(ss.filter λs=>decide (hK s=h)).length<=9900
theorem BP (P:Program)(w:World)(s:List Int):tupleKeyHash (gu P w) (kyI s)=hK s:=by
 unfold tupleKeyHash hK kyI
 rw[bo]
 congr 1
theorem Cls.sub {ss ts:List (List Int)}(C:Cls ss)(h:ts.Sublist ss):Cls ts:=λx=>bw (h.filter _).length_le (C x)
theorem Jb {P:Program}{w:World}{xs:List (List Key×Addr)}{ss:List (List Int)}{st:List Int}(nd:(keysOf xs).Nodup)(sub:∀ k∈keysOf xs,k∈ss.map kyI)(C:Cls ss):Clk (gu P w) xs (kyI st):=by
 unfold Clk
 refine bw ?_ (C (hK st))
 have n1:((xs.filter λx=>decide (tupleKeyHash (gu P w) x.1=tupleKeyHash (gu P w) (kyI st))).map (·.1)).Nodup:=List.Nodup.sublist (eX.map _) nd
 have h1:=mM n1 (l2:=(ss.filter λs=>decide (hK s=hK st)).map kyI) λk hk=>by
  obtain⟨x,hx,rfl⟩:=ao.mp hk
  obtain⟨hx1,hx2⟩:=bE.mp hx
  obtain⟨s,hs,e⟩:=ao.mp (sub x.1 (ao.mpr ⟨x,hx1,rfl⟩))
  have hx2:=fo hx2
  rw[<-e,BP,BP]at hx2
  exact ao.mpr ⟨s,bE.mpr ⟨hs,bB hx2⟩,e⟩
 rw[aa,aa]at h1
 exact h1
theorem vW {e:Int}(h:0<=e/\e<80):hashInt e=e:=by
 obtain⟨h1,h2⟩:=h
 obtain⟨n,rfl⟩:∃ n:Nat,e=n:=⟨e.toNat,by omega⟩
 have hn:n<80:=by omega
 clear h1 h2
 revert n
 decide
theorem A3 {l:Ln}(ok:gj l)(h24:l.2.length<=24){n:Nat}(hn:n<=6){ts:List (List Int)}(nd:ts.Nodup)(h:∀ t∈ts,jf l t/\t.length=n):Cls ts:=λx=>by
 refine E7 ok h24 hn (List.Nodup.sublist eX nd) (λt ht=>h t (bE.mp ht).1) (hh:=x) λt ht=>?_
 obtain⟨h1,h2⟩:=bE.mp ht
 have h2:=fo h2
 unfold hK at h2
 rw[show t.map hashInt=t by
  refine(eV (g:=id) λe he=>?_).trans (List.map_id t)
  have:=(h t h1).1.ends e he
  have:=ok.most
  exact vW (by omega)]at h2
 exact h2
end TH
namespace TL
open PySem PySem.Spec PyProof.Rows L2
theorem JZ {P:Program}{w:World}{K:PySem.W.Frag}{mg:Str->Option Value}{od:Addr}{t1 t2 t3 t4:Tok}{ep:Nat}(hm:mg "OTHER_WORD" = some (.ref od))
  (hk:K.lookup od=some {cls:=.type "dict",data:=.dict #[⟨PyData.keyHash w.params (Str.ofString "on"),.str (Str.ofString "on") t1,.str (Str.ofString "back") t2⟩,⟨PyData.keyHash w.params (Str.ofString "back"),.str (Str.ofString "back") t3,.str (Str.ofString "on") t4⟩] ep}):GR P w K mg od:=by
 refine⟨hm,λh hK=>⟨t2,t4,_,_,ep,hK od _ hk,⟨rfl,rfl,rfl⟩,rfl,?_,?_,?_⟩⟩
 ·intro e he
  have he:e=⟨PyData.keyHash w.params (Str.ofString "on"),.str (Str.ofString "on") t1,.str (Str.ofString "back") t2⟩\/e=⟨PyData.keyHash w.params (Str.ofString "back"),.str (Str.ofString "back") t3,.str (Str.ofString "on") t4⟩:=by simpa using he
  rcases he with z |z
  ·rw[z];exact⟨.inr (Str.ofString "on"),oM (P:=P) (w:=w) (k:=.inr (Str.ofString "on")) ⟨t1,rfl⟩,rfl⟩
  ·rw[z];exact⟨.inr (Str.ofString "back"),oM (P:=P) (w:=w) (k:=.inr (Str.ofString "back")) ⟨t3,rfl⟩,rfl⟩
 ·exact .cons (oM (P:=P) (w:=w) (k:=.inr (Str.ofString "on")) ⟨t1,rfl⟩) rfl (.cons (oM (P:=P) (w:=w) (k:=.inr (Str.ofString "back")) ⟨t3,rfl⟩) rfl .nil)
 ·have hn:¬(Sum.inr (Str.ofString "on"):Key) = .inr (Str.ofString "back"):=by decide +kernel
  simp[hn]
section
variable {X:Cx}
theorem Ic:OpR X (compareOp .Is) (λx y H Q=>∃ a b,x = .bl a/\y = .bl b/\Q (.bl (decide (a=b))) H):=by
 intro pins s σ H x y v u Q I rx ry h
 obtain⟨a,b,rfl,rfl,q⟩:=h
 cases rx
 cases ry
 exact wpAny_is_plain (by cases a<;>cases b<;>rfl) (hG I q (by cases a<;>cases b<;>rfl))
theorem tN:OpR X (compareOp .IsNot) (λx y H Q=>∃ a b,x = .bl a/\y = .bl b/\Q (.bl (!decide (a=b))) H):=by
 intro pins s σ H x y v u Q I rx ry h
 obtain⟨a,b,rfl,rfl,q⟩:=h
 cases rx
 cases ry
 exact wpAny_isNot_plain (by cases a<;>cases b<;>rfl) (hG I q (by cases a<;>cases b<;>rfl))
end
end TL
namespace TL
open PySem PySem.Spec PyProof.Rows PySem.W
section
variable {prog:Program}{w:World}{A:Around}{E:Value->Shared->Prop}{s:Shared}{κ:SortKind}{key:Keyed->Int}{D:Keyed->Prop}
theorem Kh {T R:Prop}(h:(Unit->T)->R)(t:T):R:=h λ_=>t
end
end TL
namespace TL
open PySem PySem.W PyProof.Rows
end TL
namespace TL
open PySem PySem.Spec PyProof.Rows L2
open PySem.W
end TL
namespace TL
open PySem PySem.Spec PyProof.Rows L2
open PySem.W
end TL
namespace TL
open PySem PySem.Spec PyProof.Rows L2
end TL
namespace K14
open PySem L2 TL PyProof.Rows
noncomputable abbrev St:=L2.St
noncomputable def top (i:Nat):Stmt:=PySem.Challenge.pw_turnline_k14_more_standings_than_are_gon.main.body.getD i (.Pass ⟨0,0,0,0⟩)
noncomputable def mE:Sp:=λvs H Q _=>∃ e:Int,vs = [.int e]/\Q (.int (oth e)) H
noncomputable def xA:Sp:=λvs H Q _=>∃ e:Int,vs = [.int e]/\Q (.int (e/2)) H
noncomputable def Bo (K:PySem.W.Frag):Sp:=λvs H Q _=>∃ (a:Addr) (ns:List Int) (k:Int),vs = [.ref a,.int k]/\SqL K H a (ns.map V.int)/\0<=k/\∀ c,Q (.int c) H
noncomputable def uf:Sp:=λvs H Q _=>∃ c k:Int,vs = [.int c,.int k]/\0<=k/\k<=1000/\∀ n,0<=n->n<2147483648->Q (.int n) H
noncomputable abbrev jI:Stmt:=top 10
theorem xF:gf ["end"] ["end"] (fM jI):=⟨rfl,rfl,rfl,by decide +kernel,rfl,by decide +kernel,by decide +kernel⟩
noncomputable abbrev mH:Stmt:=top 11
theorem yS:gf ["end"] ["end"] (fM mH):=⟨rfl,rfl,rfl,by decide +kernel,rfl,by decide +kernel,by decide +kernel⟩
noncomputable abbrev lG:Stmt:=top 47
theorem xG:gf ["_law_end"] ["_law_end"] (fM lG):=⟨rfl,rfl,rfl,by decide +kernel,rfl,by decide +kernel,by decide +kernel⟩
noncomputable abbrev lp:Stmt:=top 44
theorem ux:gf ["_law_script","_law_k"] ["_law_script","_law_k"] (fM lp):=⟨rfl,rfl,rfl,by decide +kernel,rfl,by decide +kernel,by decide +kernel⟩
noncomputable abbrev kO:Stmt:=top 45
theorem mG:gf ["_law_cell","_law_k","_law_again","_law_number"] ["_law_cell","_law_k"] (fM kO):=⟨rfl,rfl,rfl,by decide +kernel,rfl,by decide +kernel,by decide +kernel⟩
section
variable {P:Program}{w:World}{K:PySem.W.Frag}{mg:Str->Option Value}{base:Heap}{f:Addr}{fd:FuncData}{D c1 c2 c3 c4 c5 c6 c7:Addr}
theorem oy (F:Fn K mg "other_end" jI ["end"] f fd):fV P w K mg base CX0 1 f fd ["end"] mE:=by
 refine F.F.ok xF (λvs H Q E h=>?_) (λcdv A outer s H vs Q E hr h=>?_)
 ·obtain⟨e,rfl,_⟩:=h;rfl
 ·obtain⟨e,rfl,k⟩:=h
  refine⟨_,(fJ (fW (fT Ia (pv 0) fI))),?_⟩
  refine⟨_,rfl,_,_,rfl,rfl,?_⟩
  show Q (.int (Builtin.bitXor e 1)) H
  rw[FG];exact k
theorem sU (F:Fn K mg "piece_of" mH ["end"] f fd):fV P w K mg base CX0 1 f fd ["end"] xA:=by
 refine F.F.ok yS (λvs H Q E h=>?_) (λcdv A outer s H vs Q E hr h=>?_)
 ·obtain⟨e,rfl,_⟩:=h;rfl
 ·obtain⟨e,rfl,k⟩:=h
  refine⟨_,(fJ (fW (fT iW (pv 0) fI))),?_⟩
  exact⟨_,rfl,_,_,rfl,rfl,⟨by decide,by decide⟩,k⟩
theorem rn (F:Fn K mg "_law_other" lG ["_law_end"] f fd):fV P w K mg base CX0 1 f fd ["_law_end"] mE:=by
 refine F.F.ok xG (λvs H Q E h=>?_) (λcdv A outer s H vs Q E hr h=>?_)
 ·obtain⟨e,rfl,_⟩:=h;rfl
 ·obtain⟨e,rfl,k⟩:=h
  refine⟨_,(fJ (fW (fT uI (fT iS (pv 0) fI) (fT kb fI (fT i6 (pv 0) fI))))),?_⟩
  exact⟨_,rfl,_,_,rfl,rfl,_,rfl,_,_,rfl,rfl,by show(0:Int)<2;decide,_,_,rfl,rfl,.inl ⟨by decide,by decide⟩,_,_,rfl,rfl,k⟩
theorem uL (F:Fn K mg "_law_cell_at" lp ["_law_script","_law_k"] f fd)(B:Bl mg):fV P w K mg base CX0 1 f fd ["_law_script","_law_k"] (Bo K):=by
 refine F.F.ok ux (λvs H Q E h=>?_) (λcdv A outer s H vs Q E hr h=>?_)
 ·obtain⟨a,ns,k,rfl,_⟩:=h;rfl
 ·obtain⟨a,ns,k,rfl,hS,h0,q⟩:=h
  refine⟨_,(fH (gR (gC (wQ (pv 1) (gd gw rfl B.len cu (fD (pv 0) fG))))
 (fJ (fW (gY ig (pv 0) (pv 1) (λ_ _=>rfl)))) fZ)
 (fJ (fW fI))),?_⟩
  refine⟨_,rfl,_,rfl,a,_,rfl,.inl hS,_,_,rfl,rfl,_,rfl,ip (λhlt=>?_) (λ_=>?_)⟩
  ·have hlt:k<((ns.map V.int).length:Int):=by simpa using hlt
   rw[aa]at hlt
   have hg:(ns.map V.int)[k.toNat]? = some (V.int (ns.getD k.toNat 0)):=by
    rw[ah,aF]
    have:k.toNat<ns.length:=by omega
    simp[this]
   have e1:((k.toNat:Nat):Int)=k:=by omega
   exact⟨_,rfl,_,rfl,a,_,k,_,rfl,rfl,hS,by have h:=p7 hg;rw[e1]at h;exact h,q _⟩
  ·exact q _
theorem oz (F:Fn K mg "_law_mix" kO ["_law_cell","_law_k"] f fd)(B:Bl mg):fV P w K mg base CX0 1 f fd ["_law_cell","_law_k"] uf:=by
 refine F.F.ok mG (λvs H Q E h=>?_) (λcdv A outer s H vs Q E hr h=>?_)
 ·obtain⟨c,k,rfl,_⟩:=h;rfl
 ·obtain⟨c,k,rfl,h0,h1,q⟩:=h
  refine⟨_,(fH (gR (gC (Ha (pv 0) (fT Aw fI fI)))
 (fH (ir aN rfl (nT rfl B.range (fD (pv 1) fG)) (fO (i:=2) mG.nd rfl (Or.inl rfl))
 (fJ (fS (i:=0) mG.nd rfl (Or.inl rfl) (fT iW (pv 0) (fT Aw fI fI)))))
 (fJ (fW (fT i6 (pv 0) (fT Aw fI fI))))) fZ)
 (fH (fS (i:=3) mG.nd rfl (Or.inl rfl) (fT i6 (fT kb (fT iS (fT iS (fT i6 (pv 0) fI) (fT kb (fT kb (pv 1) (pv 1)) fI)) (pv 1)) fI) fI))
 (fH (fS (i:=3) mG.nd rfl (Or.inl rfl) (fT i6 (fT kb (pv 3) (pv 3)) fI))
 (fJ (fW (fT iW (fT i6 (fT kb (pv 3) (fT iS (pv 3) fI)) fI) fI)))))),?_⟩
  refine⟨_,rfl,_,_,rfl,rfl,⟨by decide,by decide,by decide⟩,_,_,rfl,rfl,_,rfl,ip (λhlt=>?_) (λ_=>?_)⟩
  ·refine⟨_,rfl,_,rfl,by omega,by omega,pY (λi σ H2=>H2=H/\∃ (c:Int) (x:Option V),σ = [some (.int c),some (.int k),x,none]) ⟨rfl,c,none,rfl⟩ ?_ ?_⟩
   ·rintro i σ H2 hi ⟨rfl,c,x,rfl⟩
    exact⟨_,rfl,_,_,rfl,rfl,⟨by decide,by decide,by decide⟩,_,_,rfl,rfl,⟨by decide,by decide⟩,rfl,_,_,rfl⟩
   ·rintro σ H2 ⟨rfl,c,x,rfl⟩
    refine⟨_,rfl,_,_,rfl,rfl,⟨by decide,by decide,by decide⟩,_,_,rfl,rfl,(by show(0:Int)<_;decide),q _ ?_ ?_⟩
    ·show 0<=c%(10 ^ 6);omega
    ·show c%(10 ^ 6)<_;omega
  ·refine⟨_,rfl,_,_,rfl,rfl,(by show(0:Int)<_;decide),_,rfl,_,rfl,_,_,rfl,rfl,.inl ⟨by omega,by omega⟩,_,_,rfl,rfl,.inr ⟨by decide,by decide⟩,_,_,rfl,rfl,_,rfl,_,_,rfl,rfl,_,_,rfl,rfl,.inr ⟨by decide,by decide⟩,_,_,rfl,rfl,(by show(0:Int)<_;decide),?_⟩
   dsimp only
   generalize hn:(c%1000003+k*k*7919+k)*48271%2147483629=n
   have n0:0<=n:=by omega
   have n1:n<2147483629:=by omega
   refine⟨_,rfl,_,rfl,_,_,rfl,rfl,.inl ⟨by omega,by omega⟩,_,_,rfl,rfl,(by show(0:Int)<_;decide),?_⟩
   dsimp only
   generalize hm:n*n%2147483587=m
   have m0:0<=m:=by omega
   have m1:m<2147483587:=by omega
   refine⟨_,rfl,_,rfl,_,_,rfl,rfl,_,_,rfl,rfl,.inl ⟨by omega,by omega⟩,_,_,rfl,rfl,(by show(0:Int)<_;decide),_,_,rfl,rfl,⟨by decide,by decide⟩,q _ ?_ ?_⟩
   ·show 0<=m*(m+2)%2147483579/7;omega
   ·show m*(m+2)%2147483579/7<_;omega
end
theorem gZ {n:Nat}(h:n<=1000):n<sizeLine:=bL h (by decide)
variable {K:PySem.W.Frag}{H:Hp}{vs:List V}
theorem rF {js:List (Int×Int)}(h:Das K H (js.map dP) vs):vs.length=js.length:=by rw[Dgs.length h,aa]
theorem p6 {l:Int×List (Int×Int)}(h:gj l)(e:Int):(below l.2 e).length+(above l.2 e).length<=60:=h.inc e
noncomputable def mn (K:PySem.W.Frag):Sp:=λvs H Q _=>∃ (v:V) (l:Int×List (Int×Int)) (e:Int),vs = [v,.int e]/\Da K H (dL l) v/\gj l/\yx H (jn l.2 e) Q
noncomputable def yN (K:PySem.W.Frag):Sp:=λvs H Q _=>∃ (v:V) (ns:List Int),vs = [v]/\Da K H (dI ns) v/\ns.length<=1000/\yx H (ns.reverse.map oth) Q
noncomputable def Bi (K:PySem.W.Frag):Sp:=λvs H Q _=>∃ (v u:V) (l:Int×List (Int×Int)) (ns:List Int) (e:Int),vs = [v,u,.int e]/\Da K H (dL l) v/\Da K H (dI ns) u/\gj l/\ns.length<=1000/\yx H (fr l ns e) Q
noncomputable def mF (K:PySem.W.Frag):Sp:=λvs H Q _=>∃ (v u:V) (l:Int×List (Int×Int)) (ns:List Int),vs = [v,u]/\Da K H (dL l) v/\Da K H (dI ns) u/\gj l/\ns≠ []/\ns.length<=900/\FE K H (mvs l ns) Q
noncomputable abbrev mI:Stmt:=top 13
theorem pR:gf ["line","end","joints","above","below"] ["line","end"] (fM mI):=⟨rfl,rfl,rfl,by decide +kernel,rfl,by decide +kernel,by decide +kernel⟩
theorem pB:gF (fM mI) ["line","end","joints","above","below"] {kind:=.function,names:=[(Str.ofString ".0",.local),(Str.ofString "low",.local),(Str.ofString "high",.local),(Str.ofString "end",.free)],isGenerator:=false,isCoroutine:=false,more:=[]} ["low","high","end"] 2 [none,none,some 1]:=⟨rfl,by decide +kernel,by decide +kernel,by decide +kernel,rfl,by decide +kernel,rfl,by decide +kernel⟩
theorem pA:gF (fM mI) ["line","end","joints","above","below"] {kind:=.function,names:=[(Str.ofString ".0",.local),(Str.ofString "low",.local),(Str.ofString "high",.local),(Str.ofString "end",.free)],isGenerator:=false,isCoroutine:=false,more:=[]} ["low","high","end"] 2 [none,none,some 1]:=⟨rfl,by decide +kernel,by decide +kernel,by decide +kernel,rfl,by decide +kernel,rfl,by decide +kernel⟩
noncomputable abbrev ji:Stmt:=top 48
theorem vO:gf ["_law_line","_law_end"] ["_law_line","_law_end"] (fM ji):=⟨rfl,rfl,rfl,by decide +kernel,rfl,by decide +kernel,by decide +kernel⟩
theorem lO:gF (fM ji) ["_law_line","_law_end"] {kind:=.function,names:=[(Str.ofString ".0",.local),(Str.ofString "_law_a",.local),(Str.ofString "_law_b",.local),(Str.ofString "_law_end",.free)],isGenerator:=false,isCoroutine:=false,more:=[]} ["_law_a","_law_b","_law_end"] 2 [none,none,some 1]:=⟨rfl,by decide +kernel,by decide +kernel,by decide +kernel,rfl,by decide +kernel,rfl,by decide +kernel⟩
theorem lN:gF (fM ji) ["_law_line","_law_end"] {kind:=.function,names:=[(Str.ofString ".0",.local),(Str.ofString "_law_a",.local),(Str.ofString "_law_b",.local),(Str.ofString "_law_end",.free)],isGenerator:=false,isCoroutine:=false,more:=[]} ["_law_a","_law_b","_law_end"] 2 [none,none,some 1]:=⟨rfl,by decide +kernel,by decide +kernel,by decide +kernel,rfl,by decide +kernel,rfl,by decide +kernel⟩
noncomputable abbrev oW:Stmt:=top 16
theorem Cq:gf ["train"] ["train"] (fM oW):=⟨rfl,rfl,rfl,by decide +kernel,rfl,by decide +kernel,by decide +kernel⟩
theorem sX:gF (fM oW) ["train"] {kind:=.function,names:=[(Str.ofString ".0",.local),(Str.ofString "end",.local),(Str.ofString "other_end",.globalImplicit)],isGenerator:=false,isCoroutine:=false,more:=[]} ["end"] 1 [none]:=⟨rfl,by decide +kernel,by decide +kernel,by decide +kernel,rfl,by decide +kernel,rfl,by decide +kernel⟩
noncomputable abbrev kd:Stmt:=top 17
theorem qS:gf ["line","train","end","pieces"] ["line","train","end"] (fM kd):=⟨rfl,rfl,rfl,by decide +kernel,rfl,by decide +kernel,by decide +kernel⟩
theorem pD:gF (fM kd) ["line","train","end","pieces"] {kind:=.function,names:=[(Str.ofString ".0",.local),(Str.ofString "own",.local),(Str.ofString "piece_of",.globalImplicit)],isGenerator:=false,isCoroutine:=false,more:=[]} ["own"] 1 [none]:=⟨rfl,by decide +kernel,by decide +kernel,by decide +kernel,rfl,by decide +kernel,rfl,by decide +kernel⟩
theorem pC:gF (fM kd) ["line","train","end","pieces"] {kind:=.function,names:=[(Str.ofString ".0",.local),(Str.ofString "there",.local),(Str.ofString "piece_of",.globalImplicit),(Str.ofString "pieces",.free)],isGenerator:=false,isCoroutine:=false,more:=[]} ["there","pieces"] 1 [none,some 3]:=⟨rfl,by decide +kernel,by decide +kernel,by decide +kernel,rfl,by decide +kernel,rfl,by decide +kernel⟩
noncomputable abbrev j9:Stmt:=top 18
theorem m7:gf ["line","train","told","end"] ["line","train"] (fM j9):=⟨rfl,rfl,rfl,by decide +kernel,rfl,by decide +kernel,by decide +kernel⟩
noncomputable abbrev lH:Stmt:=top 51
theorem ko:gf ["_law_line","_law_train_here","_law_end","_law_pieces","_law_found"] ["_law_line","_law_train_here"] (fM lH):=⟨rfl,rfl,rfl,by decide +kernel,rfl,by decide +kernel,by decide +kernel⟩
theorem pz:gF (fM lH) ["_law_line","_law_train_here","_law_end","_law_pieces","_law_found"] {kind:=.function,names:=[(Str.ofString ".0",.local),(Str.ofString "_law_end",.local)],isGenerator:=false,isCoroutine:=false,more:=[]} ["_law_end"] 1 [none]:=⟨rfl,by decide +kernel,by decide +kernel,by decide +kernel,rfl,by decide +kernel,rfl,by decide +kernel⟩
variable {f1 f2:Addr}{fd1 fd2:FuncData}
section
variable {P:Program}{w:World}{K:PySem.W.Frag}{mg:Str->Option Value}{base:Heap}{f:Addr}{fd:FuncData}{D c1 c2 c3 c4 c5 c6 c7:Addr}
theorem wV (F:Fn K mg "joined" mI ["line","end"] f fd)(B:Bl mg):fV P w K mg base CX0 1 f fd ["line","end"] (mn K):=by
 refine F.F.ok pR (λvs H Q E h=>?_) (λcdv A outer s H vs Q E hr h=>?_)
 ·obtain⟨v,l,e,rfl,_⟩:=h;rfl
 ·obtain⟨v,l,e,rfl,hv,ok,k⟩:=h
  obtain⟨a,b,rfl,ht,us,hl,hq⟩:=oF hv
  have hlen:=rF hq
  have hz:us.length<sizeLine:=gZ (by rw[hlen];have:=ok.len;omega)
  refine⟨_,(fH (fS (i:=2) pR.nd rfl (Or.inl rfl) (gY i7 (pv 0) fI (λ_ _=>rfl)))
 (fH (wK (i:=3) pR.nd rfl rfl (gq (pv 2)) rfl pB (.tup (.cons (.name (by decide)) (.cons (.name (by decide)) .nil))) (λ_ _ _ _=>(iu (n:=2) rfl (fQ (fO (i:=0) pB.nd rfl (Or.inl rfl)) (fQ (fO (i:=1) pB.nd rfl (Or.inl rfl)) gQ)))) (λ_ _ _ _=>(mK (gC (kP (pv 0) (pv 2))))) (λ_ _ _ _=>(pv 1)))
 (fH (wK (i:=4) pR.nd rfl rfl (gq (pv 2)) rfl pA (.tup (.cons (.name (by decide)) (.cons (.name (by decide)) .nil))) (λ_ _ _ _=>(iu (n:=2) rfl (fQ (fO (i:=0) pA.nd rfl (Or.inl rfl)) (fQ (fO (i:=1) pA.nd rfl (Or.inl rfl)) gQ)))) (λ_ _ _ _=>(mK (gC (kP (pv 1) (pv 2))))) (λ_ _ _ _=>(pv 0)))
 (fJ (fW (gd sZ rfl B.sorted boot_sorted (fD (fT nA (pv 4) (pv 3)) fG))))))),?_⟩
  refine⟨_,rfl,a,_,_,_,rfl,rfl,ht,rfl,?_⟩
  refine⟨_,rfl,b,rfl,⟨us,hl⟩,λl1 n1=>mf l.2 (λp=>decide (p.1=e)) (λp=>V.int p.2) n1 hl hlen hz ?_ ?_⟩
  ·intro i x d H' hx hd sm P1 P0 k1 k0
   obtain⟨ad,p,e1,rfl,hp⟩:=nZ (Das.same sm hq) hx
   rw[hd]at e1;cases e1
   refine⟨ad,_,rfl,hp,rfl,_,_,rfl,_,_,rfl,rfl,_,rfl,_,rfl,_,_,rfl,rfl,_,rfl,ip (λh=>⟨_,rfl,k1 h⟩) (λh=>k0 (by simpa using h))⟩
  have s1:fL H (upd H l1 (.lst (above l.2 e |>.map V.int))):=fF n1
  have e1:((l.2.filter λp=>decide (p.1=e)).map λp=>V.int p.2)=(above l.2 e).map V.int:=by unfold above;rw[bo];rfl
  rw[e1]
  refine⟨_,rfl,b,rfl,⟨us,s1.seq hl⟩,λl2 n2=>mf l.2 (λp=>decide (p.2=e)) (λp=>V.int p.1) n2 (s1.seq hl) hlen hz ?_ ?_⟩
  ·intro i x d H' hx hd sm P1 P0 k1 k0
   obtain⟨ad,p,e1,rfl,hp⟩:=nZ (Das.same (s1.trans sm) hq) hx
   rw[hd]at e1;cases e1
   refine⟨ad,_,rfl,hp,rfl,_,_,rfl,_,_,rfl,rfl,_,rfl,_,rfl,_,_,rfl,rfl,_,rfl,ip (λh=>⟨_,rfl,k1 h⟩) (λh=>k0 (by simpa using h))⟩
  have e2:((l.2.filter λp=>decide (p.2=e)).map λp=>V.int p.1)=(below l.2 e).map V.int:=by unfold below;rw[bo];rfl
  rw[e2]
  have g1:(upd (upd H l1 (.lst (above l.2 e |>.map V.int))) l2 (.lst (below l.2 e |>.map V.int))) l1=some (.lst (above l.2 e |>.map V.int)):=by
   rw[fK (fN fE n2),fE]
  have hb:=p6 ok e
  have s2:fL H (upd (upd H l1 (.lst (above l.2 e |>.map V.int))) l2 (.lst (below l.2 e |>.map V.int))):=s1.trans (fF n2)
  refine⟨_,rfl,_,rfl,l2,l1,_,_,rfl,rfl,fE,g1,bK (gZ (by rw[aa,aa];omega)),λp hp=>?_⟩
  refine⟨p,below l.2 e++above l.2 e,rfl,SqL.of (by rw[fE,av]),(by rw[ak];omega),λp2 hp2=>?_⟩
  refine k p2 _ (s2.trans ((fF hp).trans (fF hp2))) (fL.free (s2.trans (fF hp)) hp2) fE
theorem qo (F:Fn K mg "_law_joined" ji ["_law_line","_law_end"] f fd)(B:Bl mg):fV P w K mg base CX0 1 f fd ["_law_line","_law_end"] (mn K):=by
 refine F.F.ok vO (λvs H Q E h=>?_) (λcdv A outer s H vs Q E hr h=>?_)
 ·obtain⟨v,l,e,rfl,_⟩:=h;rfl
 ·obtain⟨v,l,e,rfl,hv,ok,k⟩:=h
  obtain⟨a,b,rfl,ht,us,hl,hq⟩:=oF hv
  have hlen:=rF hq
  have hz:us.length<sizeLine:=gZ (by rw[hlen];have:=ok.len;omega)
  refine⟨_,(fJ (fW (gd sZ rfl B.sorted boot_sorted (fD (fT nA (lJ (gq (gY i7 (pv 0) fI (λ_ _=>rfl))) rfl lO (.tup (.cons (.name (by decide)) (.cons (.name (by decide)) .nil))) (λ_ _ _ _=>(iu (n:=2) rfl (fQ (fO (i:=0) lO.nd rfl (Or.inl rfl)) (fQ (fO (i:=1) lO.nd rfl (Or.inl rfl)) gQ)))) (λ_ _ _ _=>(mK (gC (kP (pv 0) (pv 2))))) (λ_ _ _ _=>(pv 1))) (lJ (gq (gY i7 (pv 0) fI (λ_ _=>rfl))) rfl lN (.tup (.cons (.name (by decide)) (.cons (.name (by decide)) .nil))) (λ_ _ _ _=>(iu (n:=2) rfl (fQ (fO (i:=0) lN.nd rfl (Or.inl rfl)) (fQ (fO (i:=1) lN.nd rfl (Or.inl rfl)) gQ)))) (λ_ _ _ _=>(mK (gC (kP (pv 1) (pv 2))))) (λ_ _ _ _=>(pv 0)))) fG)))),?_⟩
  refine⟨_,rfl,a,_,_,_,rfl,rfl,ht,rfl,b,rfl,⟨us,hl⟩,λl1 n1=>mf l.2 (λp=>decide (p.1=e)) (λp=>V.int p.2) n1 hl hlen hz ?_ ?_⟩
  ·intro i x d H' hx hd sm P1 P0 k1 k0
   obtain⟨ad,p,e1,rfl,hp⟩:=nZ (Das.same sm hq) hx
   rw[hd]at e1;cases e1
   refine⟨ad,_,rfl,hp,rfl,_,_,rfl,_,_,rfl,rfl,_,rfl,_,rfl,_,_,rfl,rfl,_,rfl,ip (λh=>⟨_,rfl,k1 h⟩) (λh=>k0 (by simpa using h))⟩
  have s1:fL H (upd H l1 (.lst (above l.2 e |>.map V.int))):=fF n1
  have e1:((l.2.filter λp=>decide (p.1=e)).map λp=>V.int p.2)=(above l.2 e).map V.int:=by unfold above;rw[bo];rfl
  rw[e1]
  refine⟨_,rfl,a,_,_,_,rfl,rfl,gx s1 ht,rfl,b,rfl,⟨us,s1.seq hl⟩,λl2 n2=>mf l.2 (λp=>decide (p.2=e)) (λp=>V.int p.1) n2 (s1.seq hl) hlen hz ?_ ?_⟩
  ·intro i x d H' hx hd sm P1 P0 k1 k0
   obtain⟨ad,p,e1,rfl,hp⟩:=nZ (Das.same (s1.trans sm) hq) hx
   rw[hd]at e1;cases e1
   refine⟨ad,_,rfl,hp,rfl,_,_,rfl,_,_,rfl,rfl,_,rfl,_,rfl,_,_,rfl,rfl,_,rfl,ip (λh=>⟨_,rfl,k1 h⟩) (λh=>k0 (by simpa using h))⟩
  have e2:((l.2.filter λp=>decide (p.2=e)).map λp=>V.int p.1)=(below l.2 e).map V.int:=by unfold below;rw[bo];rfl
  rw[e2]
  have g1:(upd (upd H l1 (.lst (above l.2 e |>.map V.int))) l2 (.lst (below l.2 e |>.map V.int))) l1=some (.lst (above l.2 e |>.map V.int)):=by
   rw[fK (fN fE n2),fE]
  have hb:=p6 ok e
  have s2:fL H (upd (upd H l1 (.lst (above l.2 e |>.map V.int))) l2 (.lst (below l.2 e |>.map V.int))):=s1.trans (fF n2)
  refine⟨l1,l2,_,_,rfl,rfl,g1,fE,bK (gZ (by rw[aa,aa];omega)),λp hp=>?_⟩
  refine⟨p,above l.2 e++below l.2 e,rfl,SqL.of (by rw[fE,av]),(by rw[ak];omega),λp2 hp2=>?_⟩
  rw[Ki]
  exact k p2 _ (s2.trans ((fF hp).trans (fF hp2))) (fL.free (s2.trans (fF hp)) hp2) fE
theorem wU (F:Fn K mg "turned" oW ["train"] f fd)(B:Bl mg)(gi:Fn K mg "other_end" jI ["end"] f1 fd1):fV P w K mg base CX0 2 f fd ["train"] (yN K):=by
 have kf:fV P w K mg base CX0 1 f1 fd1 ["end"] mE:=oy gi
 refine F.F.ok Cq (λvs H Q E h=>?_) (λcdv A outer s H vs Q E hr h=>?_)
 ·obtain⟨v,l,rfl,_⟩:=h;rfl
 ·obtain⟨v,ns,rfl,hv,hz,k⟩:=h
  obtain⟨a,rfl,hS⟩:=ij.mp hv
  refine⟨_,(fJ (fW (lJ (HV rfl B.reversed (fD (pv 0) fG)) rfl sX (.name (by decide)) (λ_ _ _ _=>(fO (i:=0) sX.nd rfl (Or.inl rfl))) (λ_ _ _ _=>g8) (λ_ _ _ _=>(fP kf (hr.mono (by decide)) rfl gi.m gi.F.kp gi.b .nil gv (fD (pv 0) fG)))))),?_⟩
  refine⟨_,rfl,a,_,rfl,hS,λl1 n1=>EF (Iz hS) ns.reverse (λ_=>true) (λe=>V.int (oth e)) n1 (by rw[aa,cR]) (by rw[aa];exact gZ hz) ?_ ?_⟩
  ·intro i x d H' hx hd sm P1 P0 k1 k0
   rw[<-fA,ah,hd]at hx
   cases hx
   refine iX ?_
   exact⟨_,rfl,d,rfl,k1 rfl⟩
  rw[kU]
  refine k l1 _ (fF n1) n1 ?_
  rw[fE,bo];rfl
theorem xY (F:Fn K mg "free_ends" kd ["line","train","end"] f fd)(B:Bl mg)(hZ:Fn K mg "piece_of" mH ["end"] f1 fd1)(jr:Fn K mg "joined" mI ["line","end"] f2 fd2):
  fV P w K mg base CX0 2 f fd ["line","train","end"] (Bi K):=by
 have oH:fV P w K mg base CX0 1 f1 fd1 ["end"] xA:=sU hZ
 have vJ:fV P w K mg base CX0 1 f2 fd2 ["line","end"] (mn K):=wV jr B
 refine F.F.ok qS (λvs H Q E h=>?_) (λcdv A outer s H vs Q E hr h=>?_)
 ·obtain⟨v,u,l,ns,e,rfl,_⟩:=h;rfl
 ·obtain⟨v,u,l,ns,e,rfl,hv,hu,ok,hz,k⟩:=h
  obtain⟨a,rfl,hS⟩:=ij.mp hu
  refine⟨_,(fH (fS (i:=3) qS.nd rfl (Or.inr rfl) (lJ (gq (pv 1)) rfl pD (.name (by decide)) (λ_ _ _ _=>(fO (i:=0) pD.nd rfl (Or.inl rfl))) (λ_ _ _ _=>g8) (λ_ _ _ _=>(fP oH (hr.mono (by decide)) rfl hZ.m hZ.F.kp hZ.b .nil gv (fD (pv 0) fG)))))
 (fJ (fW (lJ (gq (fP vJ (hr.mono (by decide)) rfl jr.m jr.F.kp jr.b .nil gv (fD (pv 0) (fD (pv 2) fG)))) rfl pC (.name (by decide)) (λ_ _ _ _=>(fO (i:=0) pC.nd rfl (Or.inl rfl))) (λ_ _ _ _=>(mK (iC (uJ (K:=K) rfl hr.units) (fP oH (hr.mono (by decide)) rfl hZ.m hZ.F.kp hZ.b .nil gv (fD (pv 0) fG)) (pv 1) (by with_unfolding_all rfl)))) (λ_ _ _ _=>(pv 0)))))),?_⟩
  refine⟨_,rfl,a,rfl,⟨_,hS⟩,λl1 n1=>mf ns (λ_=>true) (λe=>V.int (e/2)) n1 hS (by rw[aa]) (by rw[aa];exact gZ hz) ?_ ?_⟩
  ·intro i x d H' hx hd sm P1 P0 k1 k0
   rw[ah,hd]at hx
   cases hx
   refine iX ?_
   exact⟨_,rfl,d,rfl,k1 rfl⟩
  rw[kU]
  have e1:(ns.map λe=>V.int (e/2))=(ns.map (· / 2)).map V.int:=by rw[bo];rfl
  rw[e1]
  have s1:fL H (upd H l1 (.lst ((ns.map (· / 2)).map V.int))):=fF n1
  refine⟨_,rfl,_,rfl,v,l,e,rfl,Da.same s1 hv,ok,λp H2 s2 hp hp2=>⟨p,rfl,⟨_,SqL.of hp2⟩,λl2 n2=>mf (jn l.2 e) (λt=> !decide (t/2∈ns.map (· / 2))) (λt=>V.int t) n2 (SqL.of hp2) (by rw[aa]) ?_ ?_ ?_⟩⟩
  ·rw[aa]
   refine gZ ?_
   unfold jn
   rw[oq,ak]
   have:=p6 ok e
   omega
  ·intro i x d H' hx hd sm P1 P0 k1 k0
   rw[ah,hd]at hx
   cases hx
   have hD:Da K H' (.list ((ns.map (· / 2)).map .int)) (.ref l1):=Da.same (s2.trans sm) (jc fE)
   refine⟨_,rfl,d,rfl,_,rfl,_,.int (d/2),hD,iB.mpr rfl,uR _,ro _,_,rfl,?_⟩
   rw[zY]
   exact ip (λh=>⟨_,rfl,k1 h⟩) (λh=>k0 (by simpa using h))
  exact k l2 _ ((s1.trans s2).trans (fF n2)) (fL.free (s1.trans s2) n2) fE
theorem ze (F:Fn K mg "moves_of" j9 ["line","train"] f fd)(gi:Fn K mg "other_end" jI ["end"] f1 fd1)(i4:Fn K mg "free_ends" kd ["line","train","end"] f2 fd2)
  (nu:fV P w K mg base CX0 2 f2 fd2 ["line","train","end"] (Bi K)):fV P w K mg base CX0 3 f fd ["line","train"] (mF K):=by
 have kf:fV P w K mg base CX0 1 f1 fd1 ["end"] mE:=oy gi
 refine F.F.ok m7 (λvs H Q E h=>?_) (λcdv A outer s H vs Q E hr h=>?_)
 ·obtain⟨v,u,l,ns,rfl,_⟩:=h;rfl
 ·obtain⟨v,u,l,ns,rfl,hv,hu,ok,hne,hz,k⟩:=h
  obtain⟨a,rfl,hS⟩:=ij.mp hu
  refine⟨_,(fH (fS (i:=2) m7.nd rfl (Or.inl rfl) (gJ fG))
 (fH (ir aN rfl (gq (fP nu (hr.mono (by decide)) rfl i4.m i4.F.kp i4.b .nil gv (fD (pv 0) (fD (pv 1) (fD (fP kf (hr.mono (by decide)) rfl gi.m gi.F.kp gi.b .nil gv (fD (gY ig (pv 1) (qZ om fI) (λ_ _=>rfl)) fG)) fG))))) (fO (i:=3) m7.nd rfl (Or.inl rfl))
 (fJ (gX (kK aH bj bh iD (pv 2) (fD (gA (fD (gA (fD gO (fD (pv 3) fG))) (fD (fT nA (jZ lh (pv 1) (lu fI) lx) (gJ (fD (pv 3) fG))) fG))) fG)))))
 (fH (ir aN rfl (gq (fP nu (hr.mono (by decide)) rfl i4.m i4.F.kp i4.b .nil gv (fD (pv 0) (fD (pv 1) (fD (gY ig (pv 1) fI (λ_ _=>rfl)) fG))))) (fO (i:=3) m7.nd rfl (Or.inl rfl))
 (fJ (gX (kK aH bj bh iD (pv 2) (fD (gA (fD (gA (fD gO (fD (pv 3) fG))) (fD (fT nA (gJ (fD (fP kf (hr.mono (by decide)) rfl gi.m gi.F.kp gi.b .nil gv (fD (pv 3) fG)) fG)) (jZ lh (pv 1) lx (lu (qZ om fI)))) fG))) fG)))))
 (fJ (fW (pv 2)))))),?_⟩
  refine⟨aI _,λt ht=>?_⟩
  have s1:fL H (upd H t (.lst [])):=fF ht
  refine⟨_,rfl,_,rfl,_,rfl,_,rfl,a,_,_,_,rfl,rfl,s1.seq hS,yt hne,_,rfl,v,_,l,ns,_,rfl,Da.same s1 hv,Da.same s1 hu,ok,by omega,λp H2 s2 hp hp2=>?_⟩
  have nt:p≠t:=(fN fE hp).symm
  have Ov:=AV ok ns (oth (ns.getLastD 0))
  have Ow:=AV ok ns (ns.headD 0)
  refine⟨p,rfl,⟨_,SqL.of hp2⟩,iP (K:=K) (a:=p) (xs:=(fr l ns (oth (ns.getLastD 0))).map V.int) (λi σ H3=>∃ (vs:List V) (x:Option V),σ = [some v,some (.ref a),some (.ref t),x]/\fL H H3/\H3 p=some (.lst ((fr l ns (oth (ns.getLastD 0))).map V.int))/\H3 t=some (.lst vs)/\
    Dgs (Lf H H3 t) (SqT K H3) ((((fr l ns (oth (ns.getLastD 0))).take i).map (onM ns)).map dMv) vs)
   ⟨[],none,rfl,s1.trans s2,hp2,s2 _ _ fE,gN.mpr rfl⟩ (λi σ H3 _ ⟨_,_,_,_,h,_⟩=>SqL.of h) ?_ ?_⟩
  ·rintro i y σ H3 N R B kN _ hi ⟨vs,x,rfl,S3,hp3,ht3,D⟩
   rw[ah]at hi
   cases q:(fr l ns (oth (ns.getLastD 0)))[i]? with
   |none=>rw[q]at hi;cases hi
   |some e=>
    rw[q]at hi
    cases hi
    have hil:i<(fr l ns (oth (ns.getLastD 0))).length:=(af.mp q).1
    refine⟨_,rfl,.inl ⟨rfl,_,SqL.of ht3⟩,_,rfl,by show 2<=sizeLine;decide,λp1 n1=>?_⟩
    refine⟨_,rfl,_,rfl,a,_,rfl,(S3.trans (fF n1)).seq hS,λp2 n2=>?_⟩
    refine⟨_,rfl,by show 1<=sizeLine;decide,λp3 n3=>?_⟩
    rw[rH]at n3 ⊢
    refine⟨p2,p3,_,_,rfl,rfl,by rw[fK (fN fE n3),fE],fE,?_,λp4 n4=>?_⟩
    ·refine bK (gZ ?_)
     rw[aa,bA]
     show ns.length-1+1<=1000
     omega
    refine⟨by show 2<=sizeLine;decide,λp5 n5=>?_⟩
    have S5:fL H3 _:=(fF n1).trans ((fF n2).trans ((fF n3).trans ((fF n4).trans (fF (o:=.tup [.ref p1,.ref p4]) n5))))
    have lv:vs.length<=60:=by rw[D.length,aa,aa,aM];omega
    refine⟨t,vs,_,rfl,rfl,S5 _ _ ht3,gZ (by omega),?_⟩
    have g1:fL (upd H3 p1 (.tup [.str "on",.int e])) _:=(fF n2).trans ((fF n3).trans ((fF n4).trans (fF (o:=.tup [.ref p1,.ref p4]) n5)))
    have:=pV (w:= "on") (e:=e) (xs:=ns.drop 1 ++ [e]) S3 ht ht3 D S5 (g1 _ _ fE) (fL.free ((fF n1).trans ((fF n2).trans (fF n3))) n4) (by rw[fK (fN fE n5),fE,av];rfl) fE
    obtain⟨r1,r2,r3⟩:=this
    refine kN _ _ ⟨_,_,rfl,r1,?_,r2,?_⟩
    ·rw[fK nt];exact S5 _ _ hp3
    ·rw[ql (onM ns) _ i e q];exact r3
  rintro σ H3 ⟨vs,x,rfl,S3,hp3,ht3,D⟩
  rw[aa,aX]at D
  refine⟨_,rfl,_,rfl,_,rfl,a,_,_,_,rfl,rfl,S3.seq hS,zW hne,v,_,l,ns,_,rfl,Da.same S3 hv,Da.same S3 hu,ok,by omega,λp' H4 s4 hp' hp4=>?_⟩
  have nt':p'≠t:=(fN ht3 hp').symm
  have D4:Dgs (Lf H H4 t) (SqT K H4) (((fr l ns (oth (ns.getLastD 0))).map (onM ns)).map dMv) vs:=Dgs.mono (λa us ⟨h1,h2,h3⟩=>⟨s4 _ _ h1,h2,h3⟩) (λa us h=>gx s4 h) D
  refine⟨p',rfl,⟨_,SqL.of hp4⟩,iP (K:=K) (a:=p') (xs:=(fr l ns (ns.headD 0)).map V.int) (λi σ H3=>∃ (vs:List V) (x:Option V),σ = [some v,some (.ref a),some (.ref t),x]/\fL H H3/\H3 p'=some (.lst ((fr l ns (ns.headD 0)).map V.int))/\H3 t=some (.lst vs)/\
    Dgs (Lf H H3 t) (SqT K H3) (((fr l ns (oth (ns.getLastD 0))).map (onM ns)++((fr l ns (ns.headD 0)).take i).map (vC ns)).map dMv) vs)
   ⟨vs,x,rfl,S3.trans s4,hp4,s4 _ _ ht3,by simpa using D4⟩ (λi σ H3 _ ⟨_,_,_,_,h,_⟩=>SqL.of h) ?_ ?_⟩
  ·rintro i y σ H3 N R B kN _ hi ⟨vs,x,rfl,S3,hp3,ht3,D⟩
   rw[ah]at hi
   cases q:(fr l ns (ns.headD 0))[i]? with
   |none=>rw[q]at hi;cases hi
   |some e=>
    rw[q]at hi
    cases hi
    have hil:i<(fr l ns (ns.headD 0)).length:=(af.mp q).1
    refine⟨_,rfl,.inl ⟨rfl,_,SqL.of ht3⟩,_,rfl,by show 2<=sizeLine;decide,λp1 n1=>?_⟩
    refine⟨_,rfl,e,rfl,by show 1<=sizeLine;decide,λp2 n2=>?_⟩
    refine⟨_,rfl,_,rfl,_,rfl,a,_,rfl,(S3.trans ((fF n1).trans (fF n2))).seq hS,λp3 n3=>?_⟩
    have ec:oQ (ns.map V.int) none (some (-1))=ns.dropLast.map V.int:=vy ns
    refine⟨p2,p3,_,_,rfl,rfl,by rw[fK (fN fE n3),fE],fE,?_,λp4 n4=>?_⟩
    ·refine bK (gZ ?_)
     show 1+(oQ (ns.map V.int) none (some (-1))).length<=1000
     rw[ec,aa,bM]
     omega
    refine⟨by show 2<=sizeLine;decide,λp5 n5=>?_⟩
    have S5:fL H3 _:=(fF n1).trans ((fF n2).trans ((fF n3).trans ((fF n4).trans (fF (o:=.tup [.ref p1,.ref p4]) n5))))
    have lv:vs.length<=120:=by rw[D.length,aa,ak,aa,aa,aM];omega
    refine⟨t,vs,_,rfl,rfl,S5 _ _ ht3,gZ (by omega),?_⟩
    have g1:fL (upd H3 p1 (.tup [.str "back",.int e])) _:=(fF n2).trans ((fF n3).trans ((fF n4).trans (fF (o:=.tup [.ref p1,.ref p4]) n5)))
    have:=pV (w:= "back") (e:=e) (xs:=oth e::ns.dropLast) S3 ht ht3 D S5 (g1 _ _ fE) (fL.free ((fF n1).trans ((fF n2).trans (fF n3))) n4) (by
     rw[fK (fN fE n5),fE]
     show some (HO.lst ([V.int (oth e)]++oQ (ns.map V.int) none (some (-1))))=_
     rw[ec];rfl) fE
    obtain⟨r1,r2,r3⟩:=this
    refine kN _ _ ⟨_,_,rfl,r1,?_,r2,?_⟩
    ·rw[fK nt'];exact S5 _ _ hp3
    ·rw[ql (vC ns) _ i e q,<-cN];exact r3
  rintro σ H3 ⟨vs,x,rfl,S3,hp3,ht3,D⟩
  rw[aa,aX]at D
  exact⟨_,rfl,k t vs H3 S3 ht ht3 D⟩
theorem xV (F:Fn K mg "_law_moves" lH ["_law_line","_law_train_here"] f fd)(gT:Fn K mg "_law_other" lG ["_law_end"] f1 fd1)(gL:Fn K mg "_law_joined" ji ["_law_line","_law_end"] f2 fd2)
  (B:Bl mg):fV P w K mg base CX0 2 f fd ["_law_line","_law_train_here"] (mF K):=by
 have nk:fV P w K mg base CX0 1 f1 fd1 ["_law_end"] mE:=rn gT
 have ml:fV P w K mg base CX0 1 f2 fd2 ["_law_line","_law_end"] (mn K):=qo gL B
 refine F.F.ok ko (λvs H Q E h=>?_) (λcdv A outer s H vs Q E hr h=>?_)
 ·obtain⟨v,u,l,ns,rfl,_⟩:=h;rfl
 ·obtain⟨v,u,l,ns,rfl,hv,hu,ok,hne,hz,k⟩:=h
  obtain⟨a,rfl,hS⟩:=ij.mp hu
  refine⟨_,(fH (wK (i:=3) ko.nd rfl rfl (gq (pv 1)) rfl pz (.name (by decide)) (λ_ _ _ _=>(fO (i:=0) pz.nd rfl (Or.inl rfl))) (λ_ _ _ _=>g8) (λ_ _ _ _=>(fT iW (pv 0) fI)))
 (fH (fS (i:=4) ko.nd rfl (Or.inl rfl) (gJ fG))
 (fH (ir aN rfl (gq (fP ml (hr.mono (by decide)) rfl gL.m gL.F.kp gL.b .nil gv (fD (pv 0) (fD (fP nk (hr.mono (by decide)) rfl gT.m gT.F.kp gT.b .nil gv (fD (gY ig (pv 1) (qZ om fI) (λ_ _=>rfl)) fG)) fG)))) (fO (i:=2) ko.nd rfl (Or.inl rfl))
 (fJ (gR (iC (nV hr.units) (fT iW (pv 2) fI) (pv 3) (by with_unfolding_all rfl))
 (fJ (gX (kK aH bj bh iD (pv 4) (fD (gA (fD (gA (fD gO (fD (pv 2) fG))) (fD (fT nA (jZ lh (pv 1) (lu fI) lx) (gJ (fD (pv 2) fG))) fG))) fG)))) fZ)))
 (fH (ir aN rfl (gq (fP ml (hr.mono (by decide)) rfl gL.m gL.F.kp gL.b .nil gv (fD (pv 0) (fD (gY ig (pv 1) fI (λ_ _=>rfl)) fG)))) (fO (i:=2) ko.nd rfl (Or.inl rfl))
 (fJ (gR (iC (nV hr.units) (fT iW (pv 2) fI) (pv 3) (by with_unfolding_all rfl))
 (fJ (gX (kK aH bj bh iD (pv 4) (fD (gA (fD (gA (fD gO (fD (pv 2) fG))) (fD (fT nA (gJ (fD (fP nk (hr.mono (by decide)) rfl gT.m gT.F.kp gT.b .nil gv (fD (pv 2) fG)) fG)) (jZ lh (pv 1) lx (lu (qZ om fI)))) fG))) fG)))) fZ)))
 (fJ (fW (pv 4))))))),?_⟩
  refine⟨_,rfl,a,rfl,⟨_,hS⟩,λpc n0=>mf ns (λ_=>true) (λe=>V.int (e/2)) n0 hS (by rw[aa]) (by rw[aa];exact gZ (by omega)) ?_ ?_⟩
  ·intro i x d H' hx hd sm P1 P0 k1 k0
   rw[ah,hd]at hx
   cases hx
   refine iX ?_
   exact⟨_,rfl,_,_,rfl,rfl,⟨by decide,by decide⟩,k1 rfl⟩
  rw[kU]
  have e1:(ns.map λe=>V.int (e/2))=(ns.map (· / 2)).map V.int:=by rw[bo];rfl
  rw[e1]
  have s0:fL H (upd H pc (.lst ((ns.map (· / 2)).map V.int))):=fF n0
  have hpc:(upd H pc (.lst ((ns.map (· / 2)).map V.int))) pc=some (.lst ((ns.map (· / 2)).map V.int)):=fE
  generalize hH0:upd H pc (.lst ((ns.map (· / 2)).map V.int))=H0 at s0 hpc
  refine⟨aI _,λt ht=>?_⟩
  have s1:fL H0 (upd H0 t (.lst [])):=fF ht
  have S1:fL H (upd H0 t (.lst [])):=s0.trans s1
  refine⟨_,rfl,_,rfl,_,rfl,a,_,_,_,rfl,rfl,S1.seq hS,yt hne,_,rfl,v,l,_,rfl,Da.same S1 hv,ok,λp H2 s2 hp hp2=>?_⟩
  have nt:p≠t:=(fN fE hp).symm
  have Ov:=AJ ok (oth (ns.getLastD 0))
  have Ow:=AJ ok (ns.headD 0)
  refine⟨p,rfl,⟨_,SqL.of hp2⟩,iP (K:=K) (a:=p) (xs:=(jn l.2 (oth (ns.getLastD 0))).map V.int) (λi σ H3=>∃ (vs:List V) (x:Option V),σ = [some v,some (.ref a),x,some (.ref pc),some (.ref t)]/\fL H0 H3/\H3 p=some (.lst ((jn l.2 (oth (ns.getLastD 0))).map V.int))/\H3 t=some (.lst vs)/\
    Dgs (Lf H0 H3 t) (SqT K H3) (((((jn l.2 (oth (ns.getLastD 0))).take i).filter λt=> !decide (t/2∈ns.map (· / 2))).map (onM ns)).map dMv) vs)
   ⟨[],none,rfl,s1.trans s2,hp2,s2 _ _ fE,gN.mpr rfl⟩ (λi σ H3 _ ⟨_,_,_,_,h,_⟩=>SqL.of h) ?_ ?_⟩
  ·rintro i y σ H3 N R B kN _ hi ⟨vs,x,rfl,S3,hp3,ht3,D⟩
   rw[ah]at hi
   cases q:(jn l.2 (oth (ns.getLastD 0)))[i]? with
   |none=>rw[q]at hi;cases hi
   |some e=>
    rw[q]at hi
    cases hi
    have hil:i<(jn l.2 (oth (ns.getLastD 0))).length:=(af.mp q).1
    have st:=take_succ_filter (λt=> !decide (t/2∈ns.map (· / 2))) _ i e q
    refine⟨_,rfl,_,_,rfl,rfl,⟨by decide,by decide⟩,_,rfl,_,.int (e/2),jc (S3 _ _ hpc),iB.mpr rfl,uR _,ro _,_,rfl,?_⟩
    rw[zY]
    refine ip (c:=(!decide (e/2∈ns.map (· / 2)))=true) (λhc=>?_) (λhc=>?_)
    ·refine⟨_,rfl,.inl ⟨rfl,_,SqL.of ht3⟩,_,rfl,by show 2<=sizeLine;decide,λp1 n1=>?_⟩
     refine⟨_,rfl,_,rfl,a,_,rfl,((s0.trans S3).trans (fF n1)).seq hS,λp2 n2=>?_⟩
     refine⟨_,rfl,by show 1<=sizeLine;decide,λp3 n3=>?_⟩
     rw[rH]at n3 ⊢
     refine⟨p2,p3,_,_,rfl,rfl,by rw[fK (fN fE n3),fE],fE,?_,λp4 n4=>?_⟩
     ·refine bK (gZ ?_)
      rw[aa,bA]
      show ns.length-1+1<=1000
      omega
     refine⟨by show 2<=sizeLine;decide,λp5 n5=>?_⟩
     have S5:fL H3 _:=(fF n1).trans ((fF n2).trans ((fF n3).trans ((fF n4).trans (fF (o:=.tup [.ref p1,.ref p4]) n5))))
     have lv:vs.length<=60:=by
      rw[D.length,aa,aa]
      refine bw (bS _ _) ?_
      rw[aM];omega
     refine⟨t,vs,_,rfl,rfl,S5 _ _ ht3,gZ (by omega),?_⟩
     have g1:fL (upd H3 p1 (.tup [.str "on",.int e])) _:=(fF n2).trans ((fF n3).trans ((fF n4).trans (fF (o:=.tup [.ref p1,.ref p4]) n5)))
     obtain⟨r1,r2,r3⟩:=pV (w:= "on") (e:=e) (xs:=ns.drop 1 ++ [e]) S3 ht ht3 D S5 (g1 _ _ fE) (fL.free ((fF n1).trans ((fF n2).trans (fF n3))) n4) (by rw[fK (fN fE n5),fE,av];rfl) fE
     refine kN _ _ ⟨_,_,rfl,r1,?_,r2,?_⟩
     ·rw[fK nt];exact S5 _ _ hp3
     ·rw[st,aQ hc,av];exact r3
    ·refine kN _ _ ⟨vs,_,rfl,S3,hp3,ht3,?_⟩
     rw[st,aG hc,dS];exact D
  rintro σ H3 ⟨vs,x,rfl,S3,hp3,ht3,D⟩
  rw[aa,aX]at D
  refine⟨_,rfl,_,rfl,a,_,_,_,rfl,rfl,(s0.trans S3).seq hS,zW hne,v,l,_,rfl,Da.same (s0.trans S3) hv,ok,λp' H4 s4 hp' hp4=>?_⟩
  have nt':p'≠t:=(fN ht3 hp').symm
  have D4:Dgs (Lf H0 H4 t) (SqT K H4) (((fr l ns (oth (ns.getLastD 0))).map (onM ns)).map dMv) vs:=Dgs.mono (λa us ⟨h1,h2,h3⟩=>⟨s4 _ _ h1,h2,h3⟩) (λa us h=>gx s4 h) D
  have So:=AV ok ns (oth (ns.getLastD 0))
  refine⟨p',rfl,⟨_,SqL.of hp4⟩,iP (K:=K) (a:=p') (xs:=(jn l.2 (ns.headD 0)).map V.int) (λi σ H3=>∃ (vs:List V) (x:Option V),σ = [some v,some (.ref a),x,some (.ref pc),some (.ref t)]/\fL H0 H3/\H3 p'=some (.lst ((jn l.2 (ns.headD 0)).map V.int))/\H3 t=some (.lst vs)/\
    Dgs (Lf H0 H3 t) (SqT K H3) (((fr l ns (oth (ns.getLastD 0))).map (onM ns)++(((jn l.2 (ns.headD 0)).take i).filter λt=> !decide (t/2∈ns.map (· / 2))).map (vC ns)).map dMv) vs)
   ⟨vs,x,rfl,S3.trans s4,hp4,s4 _ _ ht3,by simpa using D4⟩ (λi σ H3 _ ⟨_,_,_,_,h,_⟩=>SqL.of h) ?_ ?_⟩
  ·rintro i y σ H3 N R B kN _ hi ⟨vs,x,rfl,S3,hp3,ht3,D⟩
   rw[ah]at hi
   cases q:(jn l.2 (ns.headD 0))[i]? with
   |none=>rw[q]at hi;cases hi
   |some e=>
    rw[q]at hi
    cases hi
    have hil:i<(jn l.2 (ns.headD 0)).length:=(af.mp q).1
    have st:=take_succ_filter (λt=> !decide (t/2∈ns.map (· / 2))) _ i e q
    refine⟨_,rfl,_,_,rfl,rfl,⟨by decide,by decide⟩,_,rfl,_,.int (e/2),jc (S3 _ _ hpc),iB.mpr rfl,uR _,ro _,_,rfl,?_⟩
    rw[zY]
    refine ip (c:=(!decide (e/2∈ns.map (· / 2)))=true) (λhc=>?_) (λhc=>?_)
    ·refine⟨_,rfl,.inl ⟨rfl,_,SqL.of ht3⟩,_,rfl,by show 2<=sizeLine;decide,λp1 n1=>?_⟩
     refine⟨_,rfl,e,rfl,by show 1<=sizeLine;decide,λp2 n2=>?_⟩
     refine⟨_,rfl,_,rfl,_,rfl,a,_,rfl,((s0.trans S3).trans ((fF n1).trans (fF n2))).seq hS,λp3 n3=>?_⟩
     have ec:oQ (ns.map V.int) none (some (-1))=ns.dropLast.map V.int:=vy ns
     refine⟨p2,p3,_,_,rfl,rfl,by rw[fK (fN fE n3),fE],fE,?_,λp4 n4=>?_⟩
     ·refine bK (gZ ?_)
      show 1+(oQ (ns.map V.int) none (some (-1))).length<=1000
      rw[ec,aa,bM]
      omega
     refine⟨by show 2<=sizeLine;decide,λp5 n5=>?_⟩
     have S5:fL H3 _:=(fF n1).trans ((fF n2).trans ((fF n3).trans ((fF n4).trans (fF (o:=.tup [.ref p1,.ref p4]) n5))))
     have lv:vs.length<=120:=by
      rw[D.length,aa,ak,aa,aa]
      have:=bS (λt=> !decide (t/2∈ns.map (· / 2))) ((jn l.2 (ns.headD 0)).take i)
      rw[aM]at this
      omega
     refine⟨t,vs,_,rfl,rfl,S5 _ _ ht3,gZ (by omega),?_⟩
     have g1:fL (upd H3 p1 (.tup [.str "back",.int e])) _:=(fF n2).trans ((fF n3).trans ((fF n4).trans (fF (o:=.tup [.ref p1,.ref p4]) n5)))
     obtain⟨r1,r2,r3⟩:=pV (w:= "back") (e:=e) (xs:=oth e::ns.dropLast) S3 ht ht3 D S5 (g1 _ _ fE) (fL.free ((fF n1).trans ((fF n2).trans (fF n3))) n4) (by
      rw[fK (fN fE n5),fE]
      show some (HO.lst ([V.int (oth e)]++oQ (ns.map V.int) none (some (-1))))=_
      rw[ec];rfl) fE
     refine kN _ _ ⟨_,_,rfl,r1,?_,r2,?_⟩
     ·rw[fK nt'];exact S5 _ _ hp3
     ·rw[st,aQ hc,av (f:=vC ns),<-cN];exact r3
    ·refine kN _ _ ⟨vs,_,rfl,S3,hp3,ht3,?_⟩
     rw[st,aG hc,dS];exact D
  rintro σ H3 ⟨vs,x,rfl,S3,hp3,ht3,D⟩
  rw[aa,aX]at D
  exact⟨_,rfl,k t vs H3 (s0.trans S3) (fL.free s0 ht) ht3 (Dgs.mono (λa us ⟨h1,h2,h3⟩=>⟨h1,fL.free s0 h2,h3⟩) (λ_ _ h=>h) D)⟩
end
theorem jC {n:Nat}(h:n<=1000):n<sizeLine:=bL h (by decide)
noncomputable def DH (K:PySem.W.Frag):Sp:=λvs H Q _=>∃ n m:Int,vs = [.int n,.int m]/\0<=m/\m<=40/\∀ (p:Addr) (ns:List Int) (H':Hp),fL H H'->H p=none->H' p=some (.lst (ns.map V.int))->(ns.length:Int)=m->(∀ x∈ns,0<=x/\x<m)->ns.Nodup->Q (.ref p) H'
noncomputable def ue (K:PySem.W.Frag):Sp:=λvs H Q _=>∃ (v:V) (l:Ln) (c:Int),vs = [v,.int c]/\Da K H (dL l) v/\tw l/\∀ (v':V) (js':List (Int×Int)) (nm es:List Int) (H':Hp),fL H H'->Da K H' (dL (l.1,js')) v'->Ren l.1 nm es->js'.Perm (l.2.map (rj es))->Q v' H'
noncomputable abbrev jN:Stmt:=top 46
theorem jD:gf ["_law_number","_law_many","_law_told","_law_k"] ["_law_number","_law_many"] (fM jN):=⟨rfl,rfl,rfl,by decide +kernel,rfl,by decide +kernel,by decide +kernel⟩
noncomputable abbrev ll:Stmt:=top 49
theorem gH:gf ["_law_line","_law_cell","_law_many","_law_joints","_law_names","_law_ends","_law_piece","_law_flip","_law_made","_law_k","_law_a","_law_b","_law_joint"] ["_law_line","_law_cell"] (fM ll):=⟨rfl,rfl,rfl,by decide +kernel,rfl,by decide +kernel,by decide +kernel⟩
section
variable {P:Program}{w:World}{K:PySem.W.Frag}{mg:Str->Option Value}{base:Heap}{f:Addr}{fd:FuncData}
theorem rm (F:Fn K mg "_law_turned_row" jN ["_law_number","_law_many"] f fd)(B:Bl mg):fV P w K mg base CX0 1 f fd ["_law_number","_law_many"] (DH K):=by
 refine F.F.ok jD (λvs H Q E h=>?_) (λcdv A outer s H vs Q E hr h=>?_)
 ·obtain⟨n,m,rfl,_⟩:=h;rfl
 ·obtain⟨n,m,rfl,h0,h1,k⟩:=h
  refine⟨_,(fH (fS (i:=2) jD.nd rfl (Or.inl rfl) (gJ fG))
 (fH (ir aN rfl (nT rfl B.range (fD (pv 1) fG)) (fO (i:=3) jD.nd rfl (Or.inl rfl))
 (fH (gX (kK aH dQ fu sq (pv 2) (fD (fT i6 (pv 0) (fT iS (pv 3) fI)) (fD (pv 3) fG))))
 (fJ (fS (i:=0) jD.nd rfl (Or.inl rfl) (fT iW (pv 0) (fT iS (pv 3) fI))))))
 (fJ (fW (pv 2))))),?_⟩
  refine⟨aI _,λt ht=>?_⟩
  refine⟨_,rfl,m,rfl,by omega,by omega,pY (λi σ H3=>∃ (n:Int) (ns:List Int) (x:Option V),σ = [some (.int n),some (.int m),some (.ref t),x]/\H3=upd H t (.lst (ns.map V.int))/\ns.length=i/\(∀ x∈ns,0<=x/\x<(i:Int))/\ns.Nodup)
   ⟨n,[],none,rfl,rfl,rfl,λx hx=>(nomatch hx),cz⟩ ?_ ?_⟩
  ·rintro i σ H3 hi ⟨n,ns,x,rfl,rfl,hlen,hb,hnd⟩
   have i0:(0:Int)+(i:Nat)=(i:Int):=by omega
   rw[i0]
   have r0:0<=n%((i:Int)+1):=dg _ (by omega)
   have r1:n%((i:Int)+1)<(i:Int)+1:=cF _ (by omega)
   refine⟨_,rfl,.inl ⟨rfl,_,SqL.of fE⟩,_,rfl,_,rfl,_,_,rfl,rfl,_,_,rfl,rfl,(by show(0:Int)<(i:Int)+1;omega),_,rfl,t,_,_,_,rfl,rfl,fE,r0,?_,?_,?_⟩
   ·show n%((i:Int)+1)<=((ns.map V.int).length:Int)
    rw[aa,hlen];omega
   ·rw[aa,hlen];exact jC (by omega)
   refine⟨_,rfl,_,rfl,_,_,rfl,rfl,_,_,rfl,rfl,⟨by show(0:Int)<(i:Int)+1;omega,by show(i:Int)+1<1073741824;omega⟩,?_⟩
   have pm:=qY ns (n%((i:Int)+1)).toNat (i:Int)
   refine⟨_,ns.take (n%((i:Int)+1)).toNat++(i:Int)::ns.drop (n%((i:Int)+1)).toNat,_,rfl,?_,?_,?_,?_⟩
   ·rw[qK,av,aZ,eG,eI]
   ·rw[pm.length_eq,aO,hlen]
   ·intro x hx
    rcases aE.mp (pm.mem_iff.mp hx)with z |z
    ·omega
    ·have:=hb x z;omega
   ·refine pm.nodup_iff.mpr (bq.mpr ⟨λz=>?_,hnd⟩)
    have:=(hb _ z).2
    omega
  ·rintro σ H3 ⟨n,ns,x,rfl,rfl,hlen,hb,hnd⟩
   exact⟨_,rfl,k t ns _ (fF ht) ht fE (by omega) (λx hx=>by have:=hb x hx;omega) hnd⟩
end
section
variable {P:Program}{w:World}{K:PySem.W.Frag}{mg:Str->Option Value}{base:Heap}{f:Addr}{fd:FuncData}
theorem uK (F:Fn K mg "_law_renamed" ll ["_law_line","_law_cell"] f fd)(gh:Fn K mg "_law_mix" kO ["_law_cell","_law_k"] f1 fd1)(iQ:Fn K mg "_law_turned_row" jN ["_law_number","_law_many"] f2 fd2)
  (B:Bl mg):fV P w K mg base CX0 2 f fd ["_law_line","_law_cell"] (ue K):=by
 have jx:fV P w K mg base CX0 1 f1 fd1 ["_law_cell","_law_k"] uf:=oz gh B
 have sH:fV P w K mg base CX0 1 f2 fd2 ["_law_number","_law_many"] (DH K):=rm iQ B
 refine F.F.ok gH (λvs H Q E h=>?_) (λcdv A outer s H vs Q E hr h=>?_)
 ·obtain⟨v,l,c,rfl,_⟩:=h;rfl
 ·obtain⟨v,⟨m,js⟩,c,rfl,hv,G,k⟩:=h
  have h1:1<=m:=G.one
  have h14:m<=14:=G.most
  have h40:m<=40:=by omega
  have hjl:js.length<=24:=G.len
  obtain⟨a,b,rfl,ht,us,hl,hq⟩:=oF hv
  dsimp only at ht hq k
  refine⟨_,(fH (oZ (pv 0) (iu (n:=2) rfl (fQ (fO (i:=2) gH.nd rfl (Or.inl rfl)) (fQ (fO (i:=3) gH.nd rfl (Or.inl rfl)) gQ))))
 (fH (fS (i:=4) gH.nd rfl (Or.inl rfl) (fP sH (hr.mono (by decide)) rfl iQ.m iQ.F.kp iQ.b .nil gv (fD (fP jx (hr.mono (by decide)) rfl gh.m gh.F.kp gh.b .nil gv (fD (pv 1) (fD fI fG))) (fD (pv 2) fG))))
 (fH (fS (i:=5) gH.nd rfl (Or.inl rfl) (gJ fG))
 (fH (ir aN rfl (nT rfl B.range (fD (pv 2) fG)) (fO (i:=6) gH.nd rfl (Or.inl rfl))
 (fH (fS (i:=7) gH.nd rfl (Or.inl rfl) (fT i6 (fP jx (hr.mono (by decide)) rfl gh.m gh.F.kp gh.b .nil gv (fD (pv 1) (fD (fT iS fI (pv 6)) fG))) fI))
 (fJ (fS (i:=5) gH.nd rfl (Or.inl rfl) (fT nA (pv 5) (gJ (fD (fT iS (fT kb fI (gY ig (pv 4) (pv 6) (λ_ _=>rfl))) (pv 7)) (fD (fT uI (fT iS (fT kb fI (gY ig (pv 4) (pv 6) (λ_ _=>rfl))) fI) (pv 7)) fG))))))))
 (fH (fS (i:=8) gH.nd rfl (Or.inl rfl) (gJ fG))
 (fH (ir aN rfl (Bw rfl B.enumerate (fD (pv 3) fG)) (iu (n:=2) rfl (fQ (fO (i:=9) gH.nd rfl (Or.inl rfl)) (fQ (iu (n:=2) rfl (fQ (fO (i:=10) gH.nd rfl (Or.inl rfl)) (fQ (fO (i:=11) gH.nd rfl (Or.inl rfl)) gQ))) gQ)))
 (fH (fS (i:=12) gH.nd rfl (Or.inl rfl) (gA (fD (gd (xj rfl) rfl B.min boot_min (fD (gY ig (pv 5) (pv 10) (λ_ _=>rfl)) (fD (gY ig (pv 5) (pv 11) (λ_ _=>rfl)) fG))) (fD (gd (xk rfl) rfl B.max boot_max (fD (gY ig (pv 5) (pv 10) (λ_ _=>rfl)) (fD (gY ig (pv 5) (pv 11) (λ_ _=>rfl)) fG))) fG))))
 (fJ (gX (kK aH dQ fu sq (pv 8) (fD (fT i6 (fP jx (hr.mono (by decide)) rfl gh.m gh.F.kp gh.b .nil gv (fD (pv 1) (fD (fT iS fI (pv 9)) fG))) (fT iS (pv 9) fI)) (fD (pv 12) fG)))))))
 (fJ (fW (gA (fD (pv 2) (fD (pv 8) fG))))))))))),nm3 λR1 hR1=>?_⟩
  refine⟨_,rfl,a,_,rfl,ht,rfl,_,_,rfl,_,_,rfl,rfl,?_⟩
  refine⟨_,rfl,c,0,rfl,by decide,by decide,λn n0 n1=>⟨_,rfl,n,m,rfl,by omega,h40,λpn nm H1 s1 hn1 hn2 Ol nb nnd=>?_⟩⟩
  refine⟨aI _,λq0 nq0=>?_⟩
  refine hR1 _ _ _ (nm2 λR2 hR2=>?_)
  refine⟨_,rfl,m,rfl,by omega,by omega,oE (λi σ H3=>∃ (q:Addr) (es:List Int) (x6 x7:Option V),σ = [some (.ref a),some (.int c),some (.int m),some (.ref b),some (.ref pn),some (.ref q),x6,x7,none,none,none,none,none]/\fL H1 H3/\H3 q=some (.lst (es.map V.int))/\es.length=2*i/\(∀ j,j<i->∃ f:Int,(f=0\/f=1)/\es[2*j]? = some (2*nm.getD j 0+f)/\es[2*j+1]? = some (2*nm.getD j 0+1-f)))
   ⟨q0,[],none,none,rfl,fF nq0,fE,rfl,λj hj=>absurd hj (Nat.not_lt_zero j)⟩ ?_ ?_⟩
  ·rintro i σ H3 N R B kN _ hi ⟨q,es,x6,x7,rfl,S3,hq3,CZ,eb⟩
   have i0:(0:Int)+(i:Nat)=(i:Int):=by omega
   rw[i0]
   obtain⟨nx,hnx,ph,hat⟩:=yu (ns:=nm) (i:=(i:Int)) (by omega) (by omega)
   have nbx:=nb nx ph
   have hSn:SqL K H3 pn (nm.map V.int):=SqL.of (S3 _ _ hn2)
   refine⟨_,rfl,_,rfl,_,_,rfl,rfl,c,_,rfl,by show(0:Int)<=20+i;omega,by show 20+(i:Int)<=1000;omega,λn n0 n1=>⟨_,_,rfl,rfl,(by show(0:Int)<_;decide),?_⟩⟩
   refine⟨_,rfl,_,rfl,_,rfl,pn,_,_,_,rfl,rfl,hSn,hat,_,_,rfl,rfl,.inl ⟨by decide,by decide⟩,_,rfl,_,_,rfl,rfl,_,rfl,_,rfl,pn,_,_,_,rfl,rfl,hSn,hat,_,_,rfl,rfl,.inl ⟨by decide,by decide⟩,_,_,rfl,rfl,_,rfl,_,_,rfl,rfl,by show 2<=sizeLine;decide,λq1 nq1=>?_⟩
   refine⟨q,q1,_,_,rfl,rfl,by rw[fK (fN hq3 nq1)];exact hq3,fE,?_,λq2 nq2=>?_⟩
   ·refine bK (jC ?_)
    rw[aa,CZ]
    show 2*i+2<=1000
    omega
   refine kN _ _ ⟨q2,es ++ [2*nx+n%2,2*nx+1-n%2],_,_,rfl,S3.trans ((fF nq1).trans (fF nq2)),?_,?_,?_⟩
   ·rw[fE,av];rfl
   ·rw[ak,CZ];show 2*i+2=_;omega
   ·intro j hj
    have Ku:nm.getD i 0=nx:=by rw[aF,show i=((i:Int)).toNat by omega,hnx];rfl
    rcases fw.mp hj with z |z
    ·obtain⟨f,hf,e1,e2⟩:=eb j z
     exact⟨f,hf,by rw[aq (by omega)];exact e1,by rw[aq (by omega)];exact e2⟩
    ·subst z
     refine⟨n%2,by omega,?_,?_⟩
     ·rw[ay (by omega),CZ,bu,Ku];rfl
     ·rw[ay (by omega),CZ,show 2*j+1-2*j=1 by omega,Ku];rfl
  rintro σ H3 ⟨q,es,x6,x7,rfl,S3,hq3,CZ,eb⟩
  have R:Ren m nm es:=⟨Ol,nb,nnd,by omega,λj hj=>eb j (by omega)⟩
  refine⟨aI _,λt nt=>?_⟩
  have hl3:SqL K H3 b us:=(s1.trans S3).seq hl
  have hq4:Das K H3 (js.map dP) us:=Das.same (s1.trans S3) hq
  have hul:us.length=js.length:=by rw[Dgs.length hq,aa]
  refine hR2 _ _ _ ?_
  refine⟨_,rfl,b,rfl,⟨us,(fF nt).seq hl3⟩,xf (K:=K) (a:=b) (xs:=us) (λi σ H4=>∃ (vs:List V) (js':List (Int×Int)) (x9 x10 x11 x12:Option V),σ = [some (.ref a),some (.int c),some (.int m),some (.ref b),some (.ref pn),some (.ref q),x6,x7,some (.ref t),x9,x10,x11,x12]/\fL H3 H4/\H4 t=some (.lst vs)/\Ps K H4 js' vs/\js'.length=i/\js'.Perm ((js.take i).map (rj es)))
   ⟨[],[],none,none,none,none,rfl,fF nt,fE,gN.mpr rfl,rfl,.refl _⟩ (λi σ H4 _ ⟨_,_,_,_,_,_,_,S4,_⟩=>S4.seq hl3) ?_ ?_⟩
  ·rintro i x σ H4 p0 N R B kN _ hi ⟨vs,js',x9,x10,x11,x12,rfl,S4,ht4,D,IA,jb⟩ n0
   have hil:i<us.length:=(af.mp hi).1
   have S5:fL H3 (upd H4 p0 (.tup [.int i,x])):=S4.trans (fF n0)
   obtain⟨ad,⟨ea,eb'⟩,e1,rfl,hpr⟩:=nZ (Das.same S5 hq4) hi
   dsimp only at hpr
   have hbd:=G.ok (ea,eb') (au e1)
   unfold okJ at hbd
   dsimp only at hbd
   obtain⟨xa,ga,ma,KP⟩:=yu (ns:=es) (i:=ea) hbd.1.1 (by omega)
   obtain⟨xb,gb,mb,KO⟩:=yu (ns:=es) (i:=eb') hbd.2.1.1 (by omega)
   have hrj:rj es (ea,eb')=(min xa xb,max xa xb):=by
    unfold rj rho
    dsimp only
    rw[aF,aF,ga,gb];rfl
   refine⟨p0,_,rfl,SqT.of fE,rfl,_,_,rfl,_,_,rfl,ad,_,rfl,hpr,rfl,_,_,rfl,_,_,rfl,rfl,rfl,?_⟩
   have hSe:SqL K (upd H4 p0 (.tup [.int i,.ref ad])) q (es.map V.int):=SqL.of (S5 _ _ hq3)
   refine⟨_,rfl,_,rfl,q,_,_,_,rfl,rfl,hSe,KP,_,rfl,_,rfl,q,_,_,_,rfl,rfl,hSe,KO,_,_,rfl,?_⟩
   refine⟨_,rfl,_,rfl,q,_,_,_,rfl,rfl,hSe,KP,_,rfl,_,rfl,q,_,_,_,rfl,rfl,hSe,KO,_,_,rfl,by show 2<=sizeLine;decide,λp1 n1=>?_⟩
   rw[EB,EC]
   have ht5:(upd (upd H4 p0 (.tup [.int i,.ref ad])) p1 (.tup [.int (min xa xb),.int (max xa xb)])) t=some (.lst vs):=((fF n0).trans (fF n1)) _ _ ht4
   have vl:vs.length=i:=by rw[D.len,IA]
   refine⟨_,rfl,.inl ⟨rfl,_,SqL.of ht5⟩,_,rfl,_,rfl,_,_,rfl,rfl,c,_,rfl,by show(0:Int)<=40+i;omega,by show 40+(i:Int)<=1000;omega,λn n0' n1'=>⟨_,rfl,_,_,rfl,rfl,_,_,rfl,rfl,(by show(0:Int)<(i:Int)+1;omega),_,rfl,t,vs,_,_,rfl,rfl,ht5,?_,?_,jC (by omega),?_⟩⟩
   ·exact dg _ (by omega)
   ·have:=cF n (show(0:Int)<(i:Int)+1 by omega)
    show n%((i:Int)+1)<=(vs.length:Int)
    omega
   have pm:=qY js' (n%((i:Int)+1)).toNat (min xa xb,max xa xb)
   refine kN _ _ ⟨_,js'.take (n%((i:Int)+1)).toNat++(min xa xb,max xa xb)::js'.drop (n%((i:Int)+1)).toNat,_,_,_,_,rfl,fL.upd (S4.trans ((fF n0).trans (fF n1))) nt,fE,?_,?_,?_⟩
   ·exact Ps.ins (x:=(min xa xb,max xa xb)) _ (D.same ((fF n0).trans (fF n1))) ht5 fE
   ·rw[pm.length_eq,aO,IA]
   ·rw[aV,e1,av]
    refine pm.trans ?_
    show((min xa xb,max xa xb)::js').Perm ((js.take i).map (rj es) ++ [rj es (ea,eb')])
    rw[hrj]
    exact(jb.cons _).trans (List.perm_append_singleton _ _).symm
  rintro σ H4 ⟨vs,js',x9,x10,x11,x12,rfl,S4,ht4,D,IA,jb⟩
  refine⟨_,rfl,_,rfl,by show 2<=sizeLine;decide,λp np=>?_⟩
  have S5:=(fF (o:=.tup [.int m,.ref t]) np)
  rw[hul,aX]at jb
  exact k _ js' nm es _ (s1.trans (S3.trans (S4.trans S5))) (pZ fE ((D.same S5).da (S5 _ _ ht4))) R jb
end
structure Xr (K:PySem.W.Frag)(mg:Str->Option Value)(c2:Addr):Prop where
 jm:Xc K mg "NoTrain" c2
 cat:rW K c2 c2
noncomputable def isT (l:Ln)(ns:List Int):Prop:=ns≠ []/\jf l ns
noncomputable def yO (K:PySem.W.Frag):Sp:=λvs H Q _=>∃ (v:V) (l:Int×List (Int×Int)) (e:Int),vs = [v,.int e]/\Da K H (dL l) v/\Q (.bl (decide (0<=e/\e<2*l.1))) H
noncomputable def uk (K:PySem.W.Frag)(C:Addr):Sp:=λvs H Q E=>∃ (v u:V) (l:Int×List (Int×Int)) (ns:List Int),vs = [v,u]/\Da K H (dL l) v/\Da K H (dI ns) u/\gj l/\ns.length<=900/\
 (isT l ns->∀ H',fL H H'->Q .non H')/\(¬isT l ns->∀ H',fL H H'->∀ e,H' e=none->E (.ref C) (some e) H')
noncomputable abbrev qV:Stmt:=top 12
theorem Cr:gf ["line","end"] ["line","end"] (fM qV):=⟨rfl,rfl,rfl,by decide +kernel,rfl,by decide +kernel,by decide +kernel⟩
noncomputable abbrev jv:Stmt:=top 15
theorem kr:gf ["line","train","end","following"] ["line","train"] (fM jv):=⟨rfl,rfl,rfl,by decide +kernel,rfl,by decide +kernel,by decide +kernel⟩
theorem n6:gF (fM jv) ["line","train","end","following"] {kind:=.function,names:=[(Str.ofString ".0",.local),(Str.ofString "end",.local),(Str.ofString "piece_of",.globalImplicit)],isGenerator:=false,isCoroutine:=false,more:=[]} ["end"] 1 [none]:=⟨rfl,by decide +kernel,by decide +kernel,by decide +kernel,rfl,by decide +kernel,rfl,by decide +kernel⟩
variable {f3 f4:Addr}{fd3 fd4:FuncData}
section
variable {P:Program}{w:World}{K:PySem.W.Frag}{mg:Str->Option Value}{base:Heap}{f:Addr}{fd:FuncData}{D c1 c2 c3 c4 c5 c6 c7:Addr}
theorem Cz (F:Fn K mg "is_end" qV ["line","end"] f fd):fV P w K mg base CX0 1 f fd ["line","end"] (yO K):=by
 refine F.F.ok Cr (λvs H Q E h=>?_) (λcdv A outer s H vs Q E hr h=>?_)
 ·obtain⟨v,l,e,rfl,_⟩:=h;rfl
 ·obtain⟨v,l,e,rfl,hv,k⟩:=h
  obtain⟨a,b,rfl,ht,us,hl,hq⟩:=oF hv
  refine⟨_,(fJ (fW (Ec J4 J0 fI (pv 1) (fT kb fI (gY i7 (pv 0) fI (λ_ _=>rfl)))))),?_⟩
  refine⟨_,rfl,_,_,rfl,rfl,_,rfl,ip (λh=>?_) (λh=>?_)⟩
  ·have h:0<=e:=by simpa using h
   refine⟨_,rfl,a,_,_,_,rfl,rfl,ht,rfl,_,_,rfl,rfl,.inl ⟨by decide,by decide⟩,_,_,rfl,rfl,?_⟩
   have e1:decide (0<=e/\e<2*l.1)=decide (e<2*l.1):=by simp[h]
   rw[e1]at k
   exact k
  ·have h:¬0<=e:=by simpa using h
   have e1:decide (0<=e/\e<2*l.1)=false:=by simp[h]
   rw[e1]at k
   exact k
theorem uO (F:Fn K mg "check_train" jv ["line","train"] f fd)(XS:Xr K mg c2)(B:Bm mg)(oh:Fn K mg "is_end" qV ["line","end"] f1 fd1)
  (hZ:Fn K mg "piece_of" mH ["end"] f2 fd2) (jr:Fn K mg "joined" mI ["line","end"] f3 fd3) (gi:Fn K mg "other_end" jI ["end"] f4 fd4):fV P w K mg base (CXr P w base) 2 f fd ["line","train"] (uk K c2):=by
 have FF:fV P w K mg base CX0 1 f1 fd1 ["line","end"] (yO K):=Cz oh
 have oH:fV P w K mg base CX0 1 f2 fd2 ["end"] xA:=sU hZ
 have vJ:fV P w K mg base CX0 1 f3 fd3 ["line","end"] (mn K):=wV jr B.toBl
 have kf:fV P w K mg base CX0 1 f4 fd4 ["end"] mE:=oy gi
 refine F.F.okX kr (λvs H Q E h=>?_) (λcdv A outer s H vs Q E hr h=>?_)
 ·obtain⟨v,u,l,ns,rfl,_⟩:=h;rfl
 ·obtain⟨v,u,l,ns,rfl,hv,hu,ok,hz,k1,k2⟩:=h
  obtain⟨a,rfl,ha⟩:=ij.mp hu
  refine⟨_,(fH (gR (sf (yX (pv 1) (λ_=>rfl)))
 (fJ (nS mr rfl rfl XS.jm.m XS.jm.q cg (fD gO fG))) fZ)
 (fH (ir PassesOwn.leaving rfl (gq (pv 1)) (fO (i:=2) kr.nd rfl (Or.inl rfl))
 (fJ (gR (sf (uD (fP FF (hr.mono (by decide)) rfl oh.m oh.F.kp oh.b .nil gv (fD (pv 0) (fD (pv 2) fG)))))
 (fJ (nS mr rfl rfl XS.jm.m XS.jm.q cg (fD gO fG))) fZ)))
 (fH (gR (gC (wQ (gd Dj rfl B.len cu (fD (JW (gq (pv 1)) rfl n6 (.name (by decide)) (λ_ _ _ _=>(fO (i:=0) n6.nd rfl (Or.inl rfl))) (λ_ _ _ _=>g8) (λ_ _ _ _=>(fP oH (hr.mono (by decide)) rfl hZ.m hZ.F.kp hZ.b .nil gv (fD (pv 0) fG)))) fG)) (gd gw rfl B.len cu (fD (pv 1) fG))))
 (fJ (nS mr rfl rfl XS.jm.m XS.jm.q cg (fD gO fG))) fZ)
 (fJ (ir PassesOwn.leaving rfl (HU rfl B.zip (fD (pv 1) (fD (jZ lh (pv 1) (lu fI) lx) fG))) (iu (n:=2) rfl (fQ (fO (i:=2) kr.nd rfl (Or.inl rfl)) (fQ (fO (i:=3) kr.nd rfl (Or.inl rfl)) gQ)))
 (fJ (gR (iC (nV hr.units) (pv 3) (fP vJ (hr.mono (by decide)) rfl jr.m jr.F.kp jr.b .nil gv (fD (pv 0) (fD (fP kf (hr.mono (by decide)) rfl gi.m gi.F.kp gi.b .nil gv (fD (pv 2) fG)) fG))) (by with_unfolding_all rfl))
 (fJ (nS mr rfl rfl XS.jm.m XS.jm.q cg (fD gO fG))) fZ))))))),?_⟩
  refine⟨_,rfl,_,.inl ⟨_,ha,rfl⟩,ip (λh=>?_) (λh=>?_)⟩
  ·have h:ns = []:=by simpa using h
   exact⟨by decide,λe he=>k2 (λz=>z.1 h) H (fL.refl _) e he⟩
  have hne:ns≠ []:=by simpa using h
  refine⟨_,rfl,a,rfl,⟨_,ha⟩,pk (K:=K) (a:=a) (xs:=ns.map V.int) (λi σ H3=>∃ (x2 x3:Option V),σ = [some v,some (.ref a),x2,x3]/\H3=H/\∀ e∈ns.take i,0<=e/\e<2*l.1)
   ⟨none,none,rfl,rfl,λe he=>by simp at he⟩ (λi σ H3 _ ⟨_,_,_,e,_⟩=>e ▸ ha) ?_ ?_⟩
  ·rintro i y σ H3 hi ⟨x2,x3,rfl,rfl,al⟩
   rw[ah]at hi
   obtain⟨e,he,rfl⟩:∃ e,ns[i]? = some e/\y = .int e:=by
    cases q:ns[i]? with
    |none=>rw[q]at hi;cases hi
    |some e=>rw[q]at hi;cases hi;exact⟨e,rfl,rfl⟩
   refine⟨_,rfl,_,rfl,v,l,e,rfl,hv,_,rfl,ip (λh=>?_) (λh=>?_)⟩
   ·have h:¬(0<=e/\e<2*l.1):=λz=>by simp[z]at h
    exact⟨by decide,λx hx=>k2 (λz=>h (z.2.ends e (au he))) H3 (fL.refl _) x hx⟩
   ·have h:0<=e/\e<2*l.1:=by simpa using h
    refine⟨_,_,rfl,rfl,λx hx=>?_⟩
    rw[aV,he]at hx
    rcases aD.mp hx with z |z
    ·exact al x z
    ·have z:x=e:=by simpa using z
     rw[z];exact h
  rintro σ H3 ⟨x2,x3,rfl,rfl,al⟩
  rw[aa,aX]at al
  refine⟨_,rfl,a,rfl,⟨_,ha⟩,λq nq=>DI (gK ha) ns (λe=>e/2) nq (by rw[aa]) (by rw[aa];show ns.length+1<4096;omega) ?_ ?_⟩
  ·intro i x d H' hx hd sm P1 P0 p1
   rw[ah,hd]at hx
   cases hx
   refine iX ?_
   exact⟨_,rfl,d,rfl,p1⟩
  have hq3:=fE (H:=H3) (a:=q) (o:=.set (λk=>decide (k∈ns.map λe=>e/2)) (dn (ns.map λe=>e/2) (ns.map V.int).length))
  have s4:=fF (o:=.set (λk=>decide (k∈ns.map λe=>e/2)) (dn (ns.map λe=>e/2) (ns.map V.int).length)) nq
  generalize upd H3 q _=H4 at hq3 s4 ⊢
  refine⟨q,_,_,rfl,hq3,_,rfl,a,_,rfl,.inl (s4.seq ha),_,_,rfl,rfl,_,rfl,ip (λh=>?_) (λh=>?_)⟩
  ·have h:dn (ns.map λe=>e/2) (ns.map V.int).length<(ns.map V.int).length:=by simpa using h
   rw[aa]at h
   have h2:=(Hj (ns.map λe=>e/2)).mp (by rw[aa];exact h)
   exact⟨by decide,λx hx=>k2 (λz=>h2 z.2.nd) H4 s4 x hx⟩
  have h:¬dn (ns.map λe=>e/2) (ns.map V.int).length<(ns.map V.int).length:=by simpa using h
  rw[aa]at h
  have nd:(ns.map λe=>e/2).Nodup:=by
   have h3:=(Hj (ns.map λe=>e/2))
   rw[aa]at h3
   exact Decidable.byContradiction λz=>h (h3.mpr z)
  refine⟨_,rfl,_,rfl,_,rfl,a,_,rfl,s4.seq ha,λt nt=>?_⟩
  rw[rH]
  have ht:=fE (H:=H4) (a:=t) (o:=.lst ((ns.drop 1).map V.int))
  have s5:=fF (o:=.lst ((ns.drop 1).map V.int)) nt
  generalize upd H4 t _=H5 at ht s5 ⊢
  have S5:=s4.trans s5
  refine⟨a,t,rfl,⟨_,S5.seq ha⟩,⟨_,SqL.of ht⟩,GB (K:=K) (a:=a) (b:=t) (xs:=ns.map V.int) (ys:=(ns.drop 1).map V.int) (ns.length-1) (by simp)
   (λi σ H6=>∃ (x2 x3:Option V),σ = [some v,some (.ref a),x2,x3]/\fL H5 H6/\∀ j,j<i->∀ x y,ns[j]? = some x->ns[j+1]? = some y->y∈jn l.2 (oth x))
   ⟨_,_,rfl,fL.refl _,λj hj=>absurd hj (Nat.not_lt_zero j)⟩ (λi σ H6 _ ⟨_,_,_,s,_⟩=>⟨(S5.trans s).seq ha,SqL.of (s _ _ ht)⟩) ?_ ?_⟩
  ·rintro i x y σ H6 p hx hy ⟨x2,x3,rfl,s6,al2⟩ np
   rw[ah]at hx hy
   rw[cY,Nat.add_comm]at hy
   obtain⟨d,hd,rfl⟩:∃ e,ns[i]? = some e/\x = .int e:=by
    cases q:ns[i]? with
    |none=>rw[q]at hx;cases hx
    |some e=>rw[q]at hx;cases hx;exact⟨e,rfl,rfl⟩
   obtain⟨e,he,rfl⟩:∃ e,ns[i+1]? = some e/\y = .int e:=by
    cases q:ns[i+1]? with
    |none=>rw[q]at hy;cases hy
    |some e=>rw[q]at hy;cases hy;exact⟨e,rfl,rfl⟩
   have S7:=(S5.trans s6).trans (fF (o:=.tup [.int d,.int e]) np)
   have s7:=s6.trans (fF (o:=.tup [.int d,.int e]) np)
   refine⟨p,_,rfl,SqT.of fE,rfl,_,_,rfl,_,_,rfl,rfl,?_⟩
   refine⟨_,rfl,_,rfl,_,rfl,d,rfl,v,l,_,rfl,Da.same S7 hv,ok,λr H8 s8 nr hr8=>?_⟩
   refine⟨(jn l.2 (oth d)).map PyData.int,.int e,jc hr8,iB.mpr rfl,uR _,ro _,_,rfl,?_⟩
   rw[zY]
   refine ip (λh=>?_) (λh=>?_)
   ·have h:e∉jn l.2 (oth d):=by simpa using h
    exact⟨by decide,λx hx=>k2 (λz=>h (z.2.ch i d e hd he)) H8 (S7.trans s8) x hx⟩
   ·have h:e∈jn l.2 (oth d):=by simpa using h
    refine⟨_,_,rfl,s7.trans s8,λj hj x2 y2 hx2 hy2=>?_⟩
    rcases fw.mp hj with z |z
    ·exact al2 j z x2 y2 hx2 hy2
    ·subst z
     rw[hd]at hx2;rw[he]at hy2
     cases hx2;cases hy2
     exact h
  rintro σ H6 ⟨x2,x3,rfl,s6,al2⟩
  refine k1 ⟨hne,al,nd,λi x y hx hy=>al2 i ?_ x y hx hy⟩ H6 (S5.trans s6)
  have:=(af.mp hy).1
  omega
end
structure Cm (mg:Str->Option Value)(tk:Tok):Prop where
 pH:mg "MOST_STANDINGS" = some (.int 300 tk)
structure Xt (K:PySem.W.Frag)(mg:Str->Option Value)(c:Addr):Prop where
 p8:Xc K mg "TooMany" c
noncomputable def qO (K:PySem.W.Frag)(C:Addr):Sp:=λvs H Q E=>∃ (v u:V) (l:Ln) (ns:List Int),vs = [v,u]/\Da K H (dL l) v/\Da K H (dI ns) u/\gj l/\ns≠ []/\ns.length<=900/\jf l ns/\
 (∀ i d vs H',(fR l ns i).length=i->i<=300->fL H H'->H d=none->mU K H' d (fR l ns i) vs->Q (.ref d) H')/\
 ((∃ i,300<(fR l ns i).length)->∀ H',fL H H'->∀ e,H' e=none->E (.ref C) (some e) H')
noncomputable def at5 (σ:L2.St)(_:Hp):Nat:=match (σ[5]? :Option (Option V))with
 |some (some (V.int i))=>(301-i).toNat
 |_=>0
noncomputable def qw (K:PySem.W.Frag):Sp:=λvs H Q _=>∃ (d:Addr) (es:List Ent) (us:List V),vs = [.ref d]/\mU K H d es us/\es.length<=5000000/\∀ q bs H',og H H' q bs (es.map (·.1))->Q (.ref q) H'
noncomputable def Bp (K:PySem.W.Frag):Sp:=λvs H Q _=>∃ (d g:Addr) (es:List Ent) (us:List V) (t:List Int),vs = [.ref d,.ref g]/\mU K H d es us/\H g=some (.tup (t.map V.int))/\t∈es.map (·.1)/\pM es/\(es.map (·.1)).Nodup/\es.length<=5000000/\
 ∀ q run H',fL H H'->H q=none->vF K H' q run->qC es t run->Q (.ref q) H'
noncomputable abbrev ju:Stmt:=top 22
theorem g7:gf ["line","train","start","steps","order","at","ahead","move","behind","standing"] ["line","train"] (fM ju):=⟨rfl,rfl,rfl,by decide +kernel,rfl,by decide +kernel,by decide +kernel⟩
noncomputable abbrev jJ:Stmt:=top 23
theorem sP:gf ["standings"] ["standings"] (fM jJ):=⟨rfl,rfl,rfl,by decide +kernel,rfl,by decide +kernel,by decide +kernel⟩
theorem lB:gF (fM jJ) ["standings"] {kind:=.function,names:=[(Str.ofString ".0",.local),(Str.ofString "standing",.local),(Str.ofString "list",.globalImplicit)],isGenerator:=false,isCoroutine:=false,more:=[]} ["standing"] 1 [none]:=⟨rfl,by decide +kernel,by decide +kernel,by decide +kernel,rfl,by decide +kernel,rfl,by decide +kernel⟩
noncomputable abbrev iT:Stmt:=top 25
theorem gB:gf ["steps","goal","run","step","ahead","move"] ["steps","goal"] (fM iT):=⟨rfl,rfl,rfl,by decide +kernel,rfl,by decide +kernel,by decide +kernel⟩
section
variable {P:Program}{w:World}{K:PySem.W.Frag}{mg:Str->Option Value}{base:Heap}{f:Addr}{fd:FuncData}{c5:Addr}{tk:Tok}
theorem uN (F:Fn K mg "first_steps" ju ["line","train"] f fd)(B:Bm mg)(C:Cm mg tk)(XS:Xt K mg c5)(gE:Fn K mg "moves_of" j9 ["line","train"] f1 fd1)
  (iK:fV P w K mg base CX0 3 f1 fd1 ["line","train"] (mF K)):fV P w K mg base (CXr P w base) 4 f fd ["line","train"] (qO K c5):=by
 refine F.F.okX g7 (λvs H Q E h=>?_) (λcdv A outer s H vs Q E hr h=>?_)
 ·obtain⟨v,u,l,ns,rfl,_⟩:=h;rfl
 ·obtain⟨v,u,l,ns,rfl,hv,hu,ok,hne,hz,T,k1,k2⟩:=h
  obtain⟨a,rfl,ha⟩:=ij.mp hu
  refine⟨_,(fH (fS (i:=2) g7.nd rfl (Or.inl rfl) (fX gD rfl B.tuple cb (fD (pv 1) fG)))
 (fH (fS (i:=3) g7.nd rfl (Or.inl rfl) (za (jE hr) (pv 2) xO))
 (fH (fS (i:=4) g7.nd rfl (Or.inl rfl) (gJ (fD (pv 2) fG)))
 (fH (fS (i:=5) g7.nd rfl (Or.inl rfl) fI)
 (fH (nR PassesOwn.leaving (gC (wQ (pv 5) (gd gw rfl B.len cu (fD (pv 4) fG))))
 (fH (fS (i:=6) g7.nd rfl (Or.inl rfl) (gY ig (pv 4) (pv 5) (λ_ _=>rfl)))
 (fH (Aq (i:=5) g7.nd rfl (Or.inl rfl) fI AM)
 (fJ (ir PassesOwn.leaving rfl (gq (fP iK (hr.mono (by decide)) rfl gE.m gE.F.kp gE.b .nil gv (fD (pv 0) (fD (fX iM rfl B.list de (fD (pv 6) fG)) fG)))) (iu (n:=2) rfl (fQ (fO (i:=7) g7.nd rfl (Or.inl rfl)) (fQ (fO (i:=8) g7.nd rfl (Or.inl rfl)) gQ)))
 (fH (fS (i:=9) g7.nd rfl (Or.inl rfl) (fX gD rfl B.tuple cb (fD (pv 8) fG)))
 (fJ (gR (gC (nU (jE hr) (pv 9) (pv 3)))
 (fH (gR (gC (kP (gd gw rfl B.len cu (fD (pv 4) fG)) (me (v:=.int 300) rfl C.pH ⟨_,rfl⟩)))
 (fJ (nS mr rfl rfl XS.p8.m XS.p8.q cg (fD (D9 (i:=300) rfl C.pH ⟨_,rfl⟩ (by decide) (by decide)) fG))) fZ)
 (fH (xM (jE hr) (pv 3) (pv 9) (gA (fD (pv 6) (fD (pv 7) fG))) rfl)
 (fJ (gX (kK aH bj bh iD (pv 4) (fD (pv 9) fG)))))) fZ))))))))
 (fJ (fW (pv 3)))))))),?_⟩
  refine⟨_,rfl,a,_,rfl,.inl ⟨ha,λt0 nt0=>?_⟩⟩
  have s1:=fF (o:=.tup (ns.map V.int)) nt0
  have h1:=fE (H:=H) (a:=t0) (o:=.tup (ns.map V.int))
  generalize upd H t0 _=H1 at s1 h1 ⊢
  refine λd nd=>⟨_,rfl,_,_,t0,kyI ns,rfl,rfl,by rw[hX];exact fF nd _ _ h1,fE,?_⟩
  rw[qK]
  have s2:=fF (o:=.dT [(kyI ns,V.non)]) nd
  have h2:=s2 _ _ h1
  have hd2:=fE (H:=H1) (a:=d) (o:=.dT [(kyI ns,V.non)])
  have nd0:=fL.free s1 nd
  generalize upd H1 d _=H2 at s2 h2 hd2 ⊢
  refine⟨_,rfl,by show 1<=sizeLine;decide,λp np=>?_⟩
  have s3:=fF (o:=.lst [V.ref t0]) np
  have h3:=s3 _ _ h2
  have hd3:=s3 _ _ hd2
  have hp3:=fE (H:=H2) (a:=p) (o:=.lst [V.ref t0])
  have np0:=fL.free (s1.trans s2) np
  have S3:=s1.trans (s2.trans s3)
  generalize upd H2 p _=H3 at s3 h3 hd3 hp3 S3 ⊢
  refine rX (λσ H4=>∃ (i:Nat) (as:List Addr) (vs:List V) (x6 x7 x8 x9:Option V),σ = [some v,some (.ref a),some (.ref t0),some (.ref d),some (.ref p),some (.int i),x6,x7,x8,x9]/\fL H H4/\mU K H4 d (fR l ns i) vs/\Ord H4 p as (fR l ns i)/\i<=(fR l ns i).length/\(fR l ns i).length<=300)
   at5 ⟨0,[t0],[.non],none,none,none,none,rfl,S3,⟨hd3,rfl,λi e v' he hv'=>?_⟩,⟨hp3,rfl,λi b e hb he=>?_⟩,aI _,by simp[fR]⟩ ?_ ?_
  ·match i,he,hv' with
   | 0,he,hv'=>cases he;cases hv';rfl
  ·match i,hb,he with
   | 0,hb,he=>cases hb;cases he;exact h3
  ·rintro σ H4 N1 R1 B1 kN1 _ kB1 ⟨i,as,vs,x6,x7,x8,x9,rfl,S4,hs4,ho4,hi,KQ⟩
   have E4:=j6 ok T hne i
   refine⟨_,rfl,_,rfl,p,_,rfl,.inl (SqL.of ho4.at_),_,_,rfl,rfl,_,rfl,ip (λhlt=>?_) (λhlt=>?_)⟩
   ·have hlt:(i:Int)<((as.map V.ref).length:Int):=by simpa using hlt
    rw[aa,ho4.len]at hlt
    have hi2:i<(fR l ns i).length:=by omega
    have he:(fR l ns i)[i]? = some ((fR l ns i)[i]):=by simp
    generalize (fR l ns i)[i]=e at he
    obtain⟨b,hb⟩:∃ b,as[i]? = some b:=⟨as[i]'(by rw[ho4.len];exact hi2),ag _⟩
    have hbt:=ho4.each i b e hb he
    obtain⟨T1,T2,T3⟩:=E4.tr e (au he)
    refine⟨_,rfl,_,rfl,p,_,_,_,rfl,rfl,SqL.of ho4.at_,yr (v:=V.ref b) (by omega) (by rw[ah,show((i:Int)).toNat=i by omega,hb];rfl),?_⟩
    refine⟨_,rfl,_,_,rfl,rfl,?_⟩
    refine⟨_,rfl,_,rfl,b,_,rfl,.inr (SqT.of hbt),λq nq=>?_⟩
    have s5:=fF (o:=.lst (e.1.map V.int)) nq
    have hq5:=fE (H:=H4) (a:=q) (o:=.lst (e.1.map V.int))
    generalize upd H4 q _=H5 at s5 hq5 ⊢
    refine⟨_,_,l,e.1,rfl,Da.same (S4.trans s5) hv,jc hq5,ok,T3,by omega,λpm vm H6 s6 hpm zw Dm=>?_⟩
    have s46:=s5.trans s6
    have S6:=S4.trans s46
    have hs6:=hs4.same s46
    have ho6:=ho4.same s46
    have Ez:(mvs l e.1).length=vm.length:=by have:=Dm.length;rw[aa]at this;exact this.symm
    have AR:=s46 _ _ hbt
    have pmp:pm≠p:=bI (fN (s5 _ _ ho4.at_) hpm)
    have pmd:pm≠d:=bI (fN (s5 _ _ hs4.at_) hpm)
    refine⟨pm,rfl,⟨_,SqL.of zw⟩,iP (K:=K) (a:=pm) (xs:=vm) (λj σ H7=>∃ (as':List Addr) (vs':List V) (x7 x8 x9:Option V),σ = [some v,some (.ref a),some (.ref t0),some (.ref d),some (.ref p),some (.int ((i:Int)+1)),some (.ref b),x7,x8,x9]/\
      fL H H7/\fL (zz d p H6) H7/\mU K H7 d (gW e.1 ((mvs l e.1).take j) (fR l ns i)) vs'/\Ord H7 p as' (gW e.1 ((mvs l e.1).take j) (fR l ns i))/\(gW e.1 ((mvs l e.1).take j) (fR l ns i)).length<=300)
     ⟨as,vs,x7,x8,x9,rfl,S6,λb u h=>ja (p:=d) b u (ja (p:=p) b u h),hs6,ho6,KQ⟩ (λj σ H7 _ ⟨_,_,_,_,_,_,_,sm,_⟩=>SqL.of (sm _ _ (by rw[ni pmd pmp];exact zw))) ?_ ?_⟩
    ·rintro j y σ H7 N R B kN _ hj ⟨as',vs',y7,y8,y9,rfl,S7,sm,hs7,ho7,BQ⟩
     obtain⟨m,ad,p1,bb,hm,rfl,ht,dm,hbb,nbb,_⟩:=BC Dm hj
     obtain⟨a1,ea1,htm⟩:=I0 dm
     cases ea1
     have bbp:bb≠p:=bI (fN (s5 _ _ ho4.at_) nbb)
     have bbd:bb≠d:=bI (fN (s5 _ _ hs4.at_) nbb)
     have ht7:=gx sm (vk hs6.at_ ho6.at_ ht)
     have IE:=gx sm (vk hs6.at_ ho6.at_ htm)
     have CU:H7 bb=some (.lst (m.2.map V.int)):=sm _ _ (by rw[ni bbd bbp];exact hbb)
     have hb7:H7 b=some (.tup (e.1.map V.int)):=sm _ _ (by rw[ni (gy AR hs6.at_ (by intro z;cases z)) (gy AR ho6.at_ (by intro z;cases z))];exact AR)
     refine⟨ad,_,rfl,ht7,rfl,_,_,rfl,_,_,rfl,rfl,?_⟩
     refine⟨_,rfl,bb,_,rfl,.inl ⟨SqL.of CU,λst nst=>?_⟩⟩
     have s8:=fF (o:=.tup (m.2.map V.int)) nst
     have hst:=fE (H:=H7) (a:=st) (o:=.tup (m.2.map V.int))
     have hs8:=hs7.same s8
     have ho8:=ho7.same s8
     have S8:=S7.trans s8
     have sm8:=sm.trans s8
     have hb8:=s8 _ _ hb7
     have CP:=gx s8 IE
     generalize upd H7 st _=H8 at s8 hst hs8 ho8 S8 sm8 hb8 CP ⊢
     refine⟨_,rfl,_,rfl,d,_,rfl,oK.t (k:=kyI m.2) hs8.at_ (by rw[hX];exact hst),_,rfl,?_⟩
     rw[hs8.mem m.2]
     have oS:gW e.1 ((mvs l e.1).take (j+1)) (fR l ns i)=nF e.1 (gW e.1 ((mvs l e.1).take j) (fR l ns i)) m:=uq hm
     refine ip (λhn=>?_) (λhn=>?_)
     ·have hn:m.2∉(gW e.1 ((mvs l e.1).take j) (fR l ns i)).map (·.1):=by simpa using hn
      have nL:gW e.1 ((mvs l e.1).take (j+1)) (fR l ns i)=gW e.1 ((mvs l e.1).take j) (fR l ns i) ++ [(m.2,some (e.1,m.1))]:=by
       rw[oS];unfold nF;rw[aG hn]
      refine⟨_,rfl,p,_,rfl,.inl (SqL.of ho8.at_),_,_,rfl,rfl,_,rfl,ip (λh3=>?_) (λh3=>?_)⟩
      ·have h3:((as'.map V.ref).length:Int)=300:=by simpa using h3
       rw[aa,ho8.len]at h3
       refine λz=>⟨by show 1<=sizeLine;decide,λx hx=>k2 ⟨i+1,?_⟩ H8 S8 x hx⟩
       rw[nK he]
       have:=(oT (t:=e.1) (mvs l e.1) (fR l ns i) (j+1)).length_le
       rw[nL,ak,aP]at this
       omega
      ·have h3:¬((as'.map V.ref).length:Int)=300:=by simpa using h3
       rw[aa,ho8.len]at h3
       refine⟨_,rfl,_,rfl,by show 2<=sizeLine;decide,λtp ntp=>?_⟩
       have s9:=fF (o:=.tup [.ref b,.ref p1]) ntp
       have htp:=fE (H:=H8) (a:=tp) (o:=.tup [.ref b,.ref p1])
       have hs9:=hs8.same s9
       have ho9:=ho8.same s9
       have IG:=s9 _ _ hst
       have hb9:=s9 _ _ hb8
       have ES:=gx s9 CP
       have S9:=S8.trans s9
       have sm9:=sm8.trans s9
       generalize upd H8 tp _=H9 at s9 htp hs9 ho9 IG hb9 ES S9 sm9 ⊢
       have dl:((List.zip (gW e.1 ((mvs l e.1).take j) (fR l ns i)) vs').map λp=>(kyI p.1.1,p.2)).length<=300:=by rw[aa,bV];omega
       refine⟨_,rfl,_,rfl,d,_,rfl,A8.t (k:=kyI m.2) hs9.at_ (by rw[hX];exact IG) (j4 (by omega)),?_⟩
       obtain⟨g1,g2⟩:=Cv hs9 ho9 IG htp hb9 ES hn
       have pd:p≠d:=gy ho9.at_ hs9.at_ (by intro z;cases z)
       have hp9:upd H9 d (.dT (putK ((List.zip (gW e.1 ((mvs l e.1).take j) (fR l ns i)) vs').map λp=>(kyI p.1.1,p.2)) (kyI m.2) (.ref tp))) p=some (.lst (as'.map V.ref)):=by rw[fK pd];exact ho9.at_
       refine⟨_,rfl,.inl ⟨rfl,_,SqL.of hp9⟩,_,rfl,p,_,_,rfl,rfl,hp9,j4 (by rw[aa,ho9.len];omega),?_⟩
       refine kN _ _ ⟨as' ++ [st],vs' ++ [.ref tp],_,_,_,rfl,fL.upd (fL.upd S9 nd0) np0,vj sm9,by rw[nL];exact g1,by rw[nL];exact g2,?_⟩
       rw[nL,ak,aP]
       omega
     ·have hn:m.2∈(gW e.1 ((mvs l e.1).take j) (fR l ns i)).map (·.1):=by simpa using hn
      have sO:gW e.1 ((mvs l e.1).take (j+1)) (fR l ns i)=gW e.1 ((mvs l e.1).take j) (fR l ns i):=by
       rw[oS];unfold nF;rw[aQ hn]
      exact kN _ _ ⟨as',vs',_,_,_,rfl,S8,sm8,by rw[sO];exact hs8,by rw[sO];exact ho8,by rw[sO];exact BQ⟩
    ·rintro σ H7 ⟨as',vs',y7,y8,y9,rfl,S7,sm,hs7,ho7,BQ⟩
     rw[<-Ez,aX,<-nK he]at hs7 ho7 BQ
     have zu:=(pN l ns i).length_le
     refine kN1 _ _ ⟨i+1,as',vs',_,_,_,_,rfl,S7,hs7,ho7,by omega,BQ⟩ ?_
     show(301-((i:Int)+1)).toNat<(301-(i:Int)).toNat
     omega
   ·have hlt:¬(i:Int)<((as.map V.ref).length:Int):=by simpa using hlt
    rw[aa,ho4.len]at hlt
    have e1:(fR l ns i).length=i:=by omega
    exact kB1 _ _ ⟨_,rfl,k1 i d vs H4 e1 (by omega) S4 nd0 hs4⟩
  ·rintro σ H Q Q' hq ⟨x,e1,y,e2,p',ys,e3,h4,i',j',e5,e6,c,e7,q⟩
   exact⟨x,e1,y,e2,p',ys,e3,h4,i',j',e5,e6,c,e7,hq _ _ q⟩
theorem sV (F:Fn K mg "lists_of" jJ ["standings"] f fd)(B:Bm mg):fV P w K mg base CX0 1 f fd ["standings"] (qw K):=by
 refine F.F.ok sP (λvs H Q E h=>?_) (λcdv A outer s H vs Q E hr h=>?_)
 ·obtain⟨d,es,us,rfl,_⟩:=h;rfl
 ·obtain⟨d,es,us,rfl,hs,hl,k⟩:=h
  have hd:=hs.at_
  have kl:((es.zip us).map λp=>(kyI p.1.1,p.2)).length=es.length:=by rw[aa,bV,hs.len];omega
  have kat:∀ (i:Nat) (p:List Key×V),((es.zip us).map λp=>(kyI p.1.1,p.2))[i]? = some p->∃ t,(es.map (·.1))[i]? = some t/\p.1=kyI t:=λi p hp=>by
   have h1:(((es.zip us).map λp=>(kyI p.1.1,p.2)).map (·.1))[i]? = some p.1:=by rw[ah,hp];rfl
   rw[uZ hs.len,ah]at h1
   cases q:es[i]? with
   |none=>rw[q]at h1;cases h1
   |some e=>rw[q]at h1;exact⟨e.1,by rw[ah,q];rfl,(bc h1).symm⟩
  generalize (es.zip us).map (λp=>(kyI p.1.1,p.2))=kvs at hd kl kat
  refine⟨_,(fJ (fW (xP (lJ (xN (pv 0)) rfl lB (.name (by decide)) (λ_ _ _ _=>(fO (i:=0) lB.nd rfl (Or.inl rfl))) (λ_ _ _ _=>g8) (λ_ _ _ _=>(fX (lE (K:=K) rfl) rfl B.list de (fD (pv 0) fG))))))),?_⟩
  refine⟨d,kvs,hd,λo=>⟨_,rfl,d,o,kvs,rfl,fE,λq nq=>?_⟩⟩
  have qd:q≠d:=λz=>by subst z;rw[fE]at nq;cases nq
  have nq0:H q=none:=by rw[fK qd]at nq;exact nq
  have hf:=fE (H:=H) (a:=d) (o:=.frz o (.dT kvs))
  have hfo:∀ b,b≠d->upd H d (.frz o (.dT kvs)) b=H b:=λb hb=>fK hb
  generalize upd H d (.frz o (.dT kvs))=HF at nq hf hfo ⊢
  refine uY es.length (λi acc H'=>∃ bs:List Addr,acc=bs.map V.ref/\bs.length=i/\fL HF H'/\H' q=some (.lst acc)/\(∀ (j:Nat) b t,bs[j]? = some b->(es.map (·.1))[j]? = some t->HF b=none/\b≠q/\H' b=some (.lst (t.map V.int)))/\bs.Nodup)
   ⟨[],rfl,rfl,fF nq,fE,λj b t h=>by simp at h,by simp⟩ (λi acc H' hi ⟨_,_,_,sm,_⟩=>⟨sm _ _ hf,by rw[kl];exact hi⟩) (λacc H' ⟨_,_,_,sm,_⟩=>⟨sm _ _ hf,by rw[kl];exact ar _⟩) ?_ ?_
  ·rintro i x acc H4 H5 hi ⟨bs,rfl,bl,sm,hq,ea,nd⟩ ⟨e5,b,p,hp,rfl,hb⟩
   subst e5
   obtain⟨t,ht,hpt⟩:=kat i p hp
   rw[hpt,hX]at hb
   refine iX ?_
   refine⟨_,rfl,b,_,rfl,.inr (SqT.of hb),λnb nnb=>?_⟩
   have s6:=fF (o:=.lst (t.map V.int)) nnb
   have nbq:nb≠q:=bI (fN hq nnb)
   refine⟨s6 _ _ hq,j4 (by rw[aa];omega),bs ++ [nb],by rw[av];rfl,by rw[ak,bl];rfl,fL.upd (sm.trans s6) nq,fE,λj c u hc hu=>?_,?_⟩
   ·by_cases hj:j<bs.length
    ·rw[aq hj]at hc
     obtain⟨z1,z2,z3⟩:=ea j c u hc hu
     exact⟨z1,z2,by rw[fK z2];exact s6 _ _ z3⟩
    ·have hj2:j=bs.length:=by
      have:=(af.mp hc).1
      rw[ak,aP]at this
      omega
     rw[hj2,ay (ar _),bu]at hc
     cases hc
     rw[hj2,bl,ht]at hu
     cases hu
     exact⟨fL.free sm nnb,nbq,by rw[fK nbq];exact fE⟩
   ·rw[bQ]
    refine⟨nd,by simp,λx hx y hy=>?_⟩
    have hy:y=nb:=by simpa using hy
    subst hy
    obtain⟨j,hj,e⟩:=bF.mp hx
    have hje:j<(es.map (·.1)).length:=by rw[aa];omega
    obtain⟨_,_,z3⟩:=ea j x ((es.map (·.1))[j]'hje) (by rw[ag hj,e]) (ag _)
    exact fN z3 nnb
  ·rintro acc H' ⟨bs,rfl,bl,sm,hq,ea,nd⟩
   refine⟨sm _ _ hf,k q bs _ ⟨λb u h=>?_,nq0,by rw[fK qd];exact hq,by rw[aa];exact bl,λj b t hb ht=>?_,nd⟩⟩
   ·by_cases e:b=d
    ·subst e;rw[fE,<-hd];exact h
    ·rw[fK e];exact sm _ _ (by rw[hfo b e];exact h)
   ·obtain⟨z1,z2,z3⟩:=ea j b t hb ht
    have bd:b≠d:=λe=>by subst e;rw[hf]at z1;cases z1
    exact⟨by rw[<-hfo b bd];exact z1,z2,by rw[fK bd];exact z3⟩
theorem si (F:Fn K mg "run_back_from" iT ["steps","goal"] f fd):fV P w K mg base CX0 1 f fd ["steps","goal"] (Bp K):=by
 refine F.F.ok gB (λvs H Q E h=>?_) (λcdv A outer s H vs Q E hr h=>?_)
 ·obtain⟨d,g,es,us,t,rfl,_⟩:=h;rfl
 ·obtain⟨d,g,es,us,t,rfl,hs,hg,ht,bk,nd,hl,k⟩:=h
  refine⟨_,(fH (fS (i:=2) gB.nd rfl (Or.inl rfl) (gJ fG))
 (fH (fS (i:=3) gB.nd rfl (Or.inl rfl) (ly (jE hr) (pv 0) (pv 1) (λ_ _=>rfl)))
 (fH (nR aN (gC (tL (pv 3)))
 (fH (oZ (pv 3) (iu (n:=2) rfl (fQ (fO (i:=4) gB.nd rfl (Or.inl rfl)) (fQ (fO (i:=5) gB.nd rfl (Or.inl rfl)) gQ))))
 (fH (gR (gC (tL (pv 5)))
 (fJ (gX (kK aH bj bh iD (pv 2) (fD (pv 5) fG)))) fZ)
 (fJ (fS (i:=3) gB.nd rfl (Or.inl rfl) (ly (jE hr) (pv 0) (pv 4) (λ_ _=>rfl)))))))
 (fH (gX (As aH PySem.F.slot_list_reverse PySem.F.type_list_reverse uV (pv 2)))
 (fJ (fW (pv 2))))))),?_⟩
  refine⟨aI _,λp np=>?_⟩
  have s1:=fF (o:=.lst []) np
  have hp1:=fE (H:=H) (a:=p) (o:=.lst [])
  generalize upd H p _=H1 at s1 hp1 ⊢
  obtain⟨e0,he0,rfl⟩:=ao.mp ht
  obtain⟨j0,hj0,ej0⟩:=bF.mp he0
  have EU:es[j0]? = some e0:=by rw[ag hj0,ej0]
  have uat:∀ j,j<es.length->∃ v,us[j]? = some v:=λj hj=>⟨us[j]'(by rw[hs.len];exact hj),ag _⟩
  obtain⟨v0,hv0⟩:=uat j0 hj0
  have hs1:=hs.same s1
  refine⟨_,rfl,_,rfl,d,v0,rfl,by rw[<-hs1.get nd EU hv0];exact oK.t (k:=kyI e0.1) hs1.at_ (by rw[hX];exact s1 _ _ hg),?_⟩
  refine yA (λn σ H3=>∃ (e:Ent) (sv:V) (rr:List (Str×Int)) (vs:List V) (x4 x5:Option V),σ = [some (.ref d),some (.ref g),some (.ref p),some sv,x4,x5]/\es[n]? = some e/\us[n]? = some sv/\fL H H3/\H3 p=some (.lst vs)/\Das K (hid p H3) (rr.map dM) vs/\
    (∀ k∈rr,PyData.strOk k.1=true)/\rr.length+n<=es.length/\∀ r,qC es e.1 r->qC es e0.1 (r++rr.reverse))
   j0 ⟨e0,v0,[],[],none,none,rfl,EU,hv0,s1,hp1,gN.mpr rfl,(λk hk=>by cases hk),by simp;omega,λr hr=>by simpa using hr⟩ ?_ ?_
  ·rintro n σ H3 ⟨e,sv,rr,vs,x4,x5,rfl,hn,hsv,S3,hp3,D3,okr,ln,PT⟩
   have hs3:=hs.same S3
   have sv3:=hs3.each n e sv hn hsv
   have vl:vs.length=rr.length:=by have:=Dgs.length D3;rw[aa]at this;exact this
   refine⟨_,rfl,_,rfl,ip (λhb=>?_) (λhb=>?_)⟩
   ·obtain⟨t',o'⟩:=e
    cases o' with
    |none=>
     have z:sv = .non:=sv3
     rw[z]at hb
     exact absurd hb (by decide)
    |some tk=>
     obtain⟨t1,k1⟩:=tk
     obtain⟨a,b,c,rfl,ha,hb1,hc⟩:=sv3
     refine⟨_,rfl,a,_,rfl,SqT.of ha,rfl,_,_,rfl,_,_,rfl,rfl,?_⟩
     refine⟨_,rfl,_,rfl,nC ?_⟩
     refine⟨_,rfl,.inl ⟨rfl,_,SqL.of hp3⟩,_,rfl,p,_,_,rfl,rfl,hp3,j4 (by omega),?_⟩
     obtain⟨i,e1,hi,he1,rfl⟩:=bk.back n t' t1 k1 hn
     have hlt:=(af.mp he1).1
     obtain⟨v1,hv1⟩:=uat i hlt
     have dp:d≠p:=gy hs3.at_ hp3 (by intro z;cases z)
     have bp:b≠p:=gy hb1 hp3 (by intro z;cases z)
     have S4:=fL.upd (o:=.lst (vs ++ [V.ref c])) S3 np
     have hs4:=hs.same S4
     refine⟨_,rfl,_,rfl,d,v1,rfl,by rw[<-hs4.get nd he1 hv1];exact oK.t (k:=kyI e1.1) hs4.at_ (by rw[hX,fK bp];exact hb1),?_⟩
     refine⟨i,hi,e1,v1,rr ++ [k1],vs ++ [V.ref c],_,_,rfl,he1,hv1,S4,fE,?_,λk' hk'=>?_,by rw[ak,aP];omega,λr hr=>?_⟩
     ·rw[pX,av]
      exact Dgs.append D3 (Dgs.one (Hm (tQ hp3 hc)))
     ·rcases aD.mp hk' with z |z
      ·exact okr k' z
      ·have z:k'=k1:=by simpa using z
       rw[z];exact bk.ok n t' e1.1 k1 hn
     ·have:=PT (r ++ [k1]) (.snoc (au hn) hr)
      rw[List.reverse_append,dt,List.reverse_nil,List.nil_append]
      rw[cN]at this
      exact this
   ·obtain⟨t',o'⟩:=e
    cases o' with
    |some tk=>
     obtain⟨t1,k1⟩:=tk
     obtain⟨a,b,c,rfl,ha,hb1,hc⟩:=sv3
     exact absurd rfl hb
    |none=>
     refine⟨_,rfl,.inl ⟨rfl,_,SqL.of hp3⟩,p,_,rfl,rfl,hp3,?_⟩
     refine⟨_,rfl,k p rr.reverse _ (fL.upd S3 np) np ⟨⟨_,fE,?_⟩,λk' hk'=>okr k' (by simpa using hk')⟩ ?_⟩
     ·rw[pX,fA]
      exact Dgs.rev D3
     ·have:=PT [] (.nil (au hn))
      simpa using this
  ·rintro σ H Q Q' hq ⟨x,e1,c,e2,q⟩
   exact⟨x,e1,c,e2,hq _ _ q⟩
end
noncomputable def Be (K:PySem.W.Frag):Sp:=λvs H Q _=>∃ (d:Addr) (es:List Ent) (us:List V),vs = [.ref d]/\mU K H d es us/\pM es/\(es.map (·.1)).Nodup/\es.length<=5000000/\∀ q us' H',fL H H'->tu H H' q (fY es) us'->Q (.ref q) H'
noncomputable abbrev ku:Stmt:=top 26
theorem lj:gf ["steps","numbers","standing","step"] ["steps"] (fM ku):=⟨rfl,rfl,rfl,by decide +kernel,rfl,by decide +kernel,by decide +kernel⟩
theorem lM:gF (fM ku) ["steps","numbers","standing","step"] {kind:=.function,names:=[(Str.ofString ".0",.local),(Str.ofString "standing",.local),(Str.ofString "number",.local),(Str.ofString "list",.globalImplicit)],isGenerator:=false,isCoroutine:=false,more:=[]} ["standing","number"] 2 [none,none]:=⟨rfl,by decide +kernel,by decide +kernel,by decide +kernel,rfl,by decide +kernel,rfl,by decide +kernel⟩
section
variable {P:Program}{w:World}{K:PySem.W.Frag}{mg:Str->Option Value}{base:Heap}{f:Addr}{fd:FuncData}
theorem vR (F:Fn K mg "numbers_of" ku ["steps"] f fd)(B:Bm mg):fV P w K mg base CX0 1 f fd ["steps"] (Be K):=by
 refine F.F.ok lj (λvs H Q E h=>?_) (λcdv A outer s H vs Q E hr h=>?_)
 ·obtain⟨d,es,us,rfl,_⟩:=h;rfl
 ·obtain⟨d,es,us,rfl,hs,bk,nd,hl,k⟩:=h
  have hd:=hs.at_
  have kl:((es.zip us).map λp=>(kyI p.1.1,p.2)).length=es.length:=by rw[aa,bV,hs.len];omega
  have kat:∀ (i:Nat) (p:List Key×V),((es.zip us).map λp=>(kyI p.1.1,p.2))[i]? = some p->∃ e,es[i]? = some e/\p.1=kyI e.1/\mT K H e p.2:=λi p hp=>by
   rw[ah]at hp
   cases q:(es.zip us)[i]? with
   |none=>rw[q]at hp;cases hp
   |some r=>
    rw[q]at hp
    cases hp
    obtain⟨h1,h2⟩:=cI.mp (show(es.zip us)[i]? = some (r.1,r.2) from q)
    exact⟨r.1,h1,rfl,hs.each i _ _ h1 h2⟩
  generalize (es.zip us).map (λp=>(kyI p.1.1,p.2))=kvs at hd kl kat
  refine⟨_,(fH (fS (i:=1) lj.nd rfl (Or.inl rfl) Ea)
 (fH (HR (ir aN rfl (yY (pv 0)) (iu (n:=2) rfl (fQ (fO (i:=2) lj.nd rfl (Or.inl rfl)) (fQ (fO (i:=3) lj.nd rfl (Or.inl rfl)) gQ)))
 (fJ (xM (jE hr) (pv 1) (pv 2) (y4 (gC (Ed (pv 3))) fI (fT iS (ly (jE hr) (pv 1) (gY i7 (pv 3) fI (λ_ _=>rfl)) (λ_ _=>rfl)) fI)) rfl))))
 (fJ (fW (xP (lJ (yY (pv 1)) rfl lM (.tup (.cons (.name (by decide)) (.cons (.name (by decide)) .nil))) (λ_ _ _ _=>(iu (n:=2) rfl (fQ (fO (i:=0) lM.nd rfl (Or.inl rfl)) (fQ (fO (i:=1) lM.nd rfl (Or.inl rfl)) gQ)))) (λ_ _ _ _=>g8) (λ_ _ _ _=>(gA (fD (fX (lE (K:=K) rfl) rfl B.list de (fD (pv 0) fG)) (fD (pv 1) fG)))))))))),?_⟩
  refine λn nn=>?_
  have nd_:n≠d:=λz=>by subst z;rw[hd]at nn;cases nn
  refine⟨d,kvs,by rw[fK (bI nd_)];exact hd,λo=>⟨_,rfl,d,o,kvs,rfl,fE,?_⟩⟩
  rw[Dv nd_]
  have hf:=fE (H:=H) (a:=d) (o:=.frz o (.dT kvs))
  have hfo:∀ b,b≠d->upd H d (.frz o (.dT kvs)) b=H b:=λb hb=>fK hb
  have st0:∀ (i:Nat) (p:List Key×V),kvs[i]? = some p->∃ e,es[i]? = some e/\p.1=kyI e.1/\mT K (upd H d (.frz o (.dT kvs))) e p.2:=λi p hp=>by
   obtain⟨e,h1,h2,h3⟩:=kat i p hp
   exact⟨e,h1,h2,h3.Jr hd⟩
  have nnF:upd H d (.frz o (.dT kvs)) n=none:=by rw[fK nd_];exact nn
  generalize upd H d (.frz o (.dT kvs))=HF at hf hfo st0 nnF ⊢
  refine GC es.length (λi σ H3=>∃ (x2 x3:Option V),σ = [some (.ref d),some (.ref n),x2,x3]/\fL HF H3/\H3 n=some (.dT (kvR (fY (es.take i)))))
   ⟨none,none,rfl,fF nnF,fE⟩ (λi σ H3 hi ⟨_,_,_,sm,_⟩=>⟨sm _ _ hf,by rw[kl];exact hi⟩) (λσ H3 ⟨_,_,_,sm,_⟩=>⟨sm _ _ hf,by rw[kl];exact ar _⟩) ?_ ?_
  ·rintro i x σ H4 H5 hi ⟨x2,x3,rfl,S4,N4⟩ ⟨p,b,kv,np,rfl,hkv,hb,rfl⟩
   obtain⟨e,he,hk,hst⟩:=st0 i kv hkv
   rw[hk,hX]at hb
   have s5:=fF (o:=.tup [.ref b,kv.2]) np
   have hp5:=fE (H:=H4) (a:=p) (o:=.tup [.ref b,kv.2])
   have N5:=s5 _ _ N4
   have S5:=S4.trans s5
   have hb5:=s5 _ _ hb
   generalize upd H4 p _=H5 at s5 hp5 N5 S5 hb5 ⊢
   have st5:=hst.same S5
   have rl:(fY (es.take i)).length=i:=by rw[jw,aM];omega
   refine⟨p,_,rfl,SqT.of hp5,rfl,_,_,rfl,_,_,rfl,rfl,?_⟩
   have sx:e.1∉(fY (es.take i)).map (·.1):=by
    rw[ix]
    intro hm
    obtain⟨e',hm,hk⟩:=ao.mp hm
    obtain⟨j,hj,ej⟩:=bF.mp hm
    rw[aM]at hj
    rw[ft]at ej
    obtain⟨hi,ei⟩:=af.mp he
    have h2:(es.map (·.1))[j]'(by rw[aa];omega)=(es.map (·.1))[i]'(by rw[aa];omega):=by
     rw[bY,bY,ej,ei]
     exact hk
    have:=(cE nd).mp h2
    omega
   have AO:jM (kvR (fY (es.take i))) (kyI e.1)=none:=by
    rw[oC]
    cases q:g6 (fY (es.take i)) e.1 with
    |none=>rfl
    |some z=>exact absurd (ao.mpr ⟨_,jK q,rfl⟩) sx
   have fin:∀ z:Int,z=uT (fY (es.take i)) e->∃ a H4,(V.ref n) = .ref a/\A8 H5 a (.ref b) (.int z) H4/\∃ (x2 x3:Option V),[some (V.ref d),some (.ref n),some (.ref b),some kv.2] = [some (.ref d),some (.ref n),x2,x3]/\fL HF H4/\H4 n=some (.dT (kvR (fY (es.take (i+1))))):=λz hz=>
    ⟨n,_,rfl,.inr ⟨_,kyI e.1,b,N5,rfl,by rw[hX];exact hb5,j4 (by unfold kvR;rw[aa];omega),rfl⟩,_,_,rfl,fL.upd S5 nnF,by
     rw[fE,oY _ AO,aV,he,hz]
     show _=some (HO.dT (kvR (fY (es.take i ++ [e]))))
     rw[mJ]
     unfold kvR
     rw[av]
     rfl⟩
   refine⟨_,rfl,_,rfl,ip (λhh=>?_) (λhh=>?_)⟩
   ·refine⟨_,rfl,_,rfl,fin _ ?_⟩
    obtain⟨t',o'⟩:=e
    cases o' with
    |none=>rfl
    |some tk=>
     exfalso
     obtain⟨t1,k1⟩:=tk
     obtain⟨a,b1,c,IP,_⟩:=st5
     rw[IP]at hh
     exact absurd (fo hh) (by intro z;cases z)
   ·obtain⟨t',o'⟩:=e
    cases o' with
    |none=>
     have z:kv.2 = .non:=st5
     rw[z]at hh
     exact absurd rfl hh
    |some tk=>
     obtain⟨t1,k1⟩:=tk
     obtain⟨a,b1,c,IP,ha,hb1,hc⟩:=st5
     obtain⟨j,e1,hj,he1,rfl⟩:=bk.back i t' t1 k1 he
     obtain⟨z,hz⟩:=uX (rows:=fY (es.take i)) (t:=e1.1) (by
      rw[ix]
      exact ao.mpr ⟨e1,au (by rw[List.getElem?_take,aQ hj];exact he1),rfl⟩)
     refine⟨_,rfl,_,rfl,a,_,_,_,IP,rfl,SqT.of ha,rfl,n,V.int z,rfl,?_,_,_,rfl,rfl,?_⟩
     ·have g:=oK.t (k:=kyI e1.1) N5 (by rw[hX];exact hb1)
      rw[oC,hz]at g
      exact g
     ·refine⟨_,rfl,_,rfl,fin _ ?_⟩
      show z+1=(g6 (fY (es.take i)) e1.1).getD 0+1
      rw[hz];rfl
  ·rintro σ H3 ⟨x2,x3,rfl,S3,N3⟩
   rw[aX]at N3
   refine⟨S3 _ _ hf,?_⟩
   have S4:fL H (upd H3 d (.dT kvs)):=λb u h=>by
    by_cases e:b=d
    ·subst e;rw[fE,<-hd];exact h
    ·rw[fK e];exact S3 _ _ (by rw[hfo b e];exact h)
   have hn4:upd H3 d (.dT kvs) n=some (.dT (kvR (fY es))):=by rw[fK nd_];exact N3
   have nl:(kvR (fY es)).length=es.length:=by unfold kvR;rw[aa,jw]
   generalize upd H3 d (.dT kvs)=H4 at S4 hn4 ⊢
   refine⟨n,_,hn4,λo2=>⟨_,rfl,n,o2,_,rfl,fE,λq nq=>?_⟩⟩
   have S5:=fL.upd (o:=.frz o2 (.dT (kvR (fY es)))) S4 nn
   have hf5:=fE (H:=H4) (a:=n) (o:=.frz o2 (.dT (kvR (fY es))))
   generalize upd H4 n (.frz o2 (.dT (kvR (fY es))))=H5 at nq S5 hf5 ⊢
   have hqn:q≠n:=λe=>by rw[e,hf5]at nq;cases nq
   refine Hc es.length (fY es) (mV H) (λr v=>mV.mono r v) nq (jw es).symm (j4 (by omega)) (λi H' sm hi=>⟨sm _ _ hf5,by rw[nl];exact hi⟩) (λH' sm=>⟨sm _ _ hf5,by rw[nl];exact ar _⟩) ?_ ?_
   ·rintro i x r H6 H7 sm ⟨acc,hq⟩ ⟨p,b,kv,np,rfl,hkv,hb,rfl⟩ hr P1 P0 kk
    have ekv:kv=(kyI r.1,V.int r.2):=by
     unfold kvR at hkv
     rw[ah,hr]at hkv
     exact(bc hkv).symm
    subst ekv
    have hb:_=some (HO.tup ((kyI r.1).map kV)):=hb
    rw[hX]at hb
    have s7:=fF (o:=.tup [.ref b,.int r.2]) np
    have hp7:=fE (H:=H6) (a:=p) (o:=.tup [.ref b,.int r.2])
    have hb7:=s7 _ _ hb
    have hq7:=s7 _ _ hq
    have S7:=sm.trans s7
    dsimp only at hp7 ⊢
    generalize upd H6 p _=H7 at s7 hp7 hb7 hq7 S7 ⊢
    refine⟨p,_,rfl,SqT.of hp7,rfl,_,_,rfl,_,_,rfl,rfl,?_⟩
    refine GW ?_
    refine⟨_,rfl,b,_,rfl,.inr (SqT.of hb7),λnb nnb=>?_⟩
    have s8:=fF (o:=.lst (r.1.map V.int)) nnb
    refine⟨_,rfl,by show 2<=sizeLine;decide,λnt nnt=>kk _ _ (s7.trans (s8.trans (fF nnt))) ?_⟩
    have nbq:nb≠q:=(fN hq7 nnb).symm
    have ntq:nt≠q:=(fN (s8 _ _ hq7) nnt).symm
    exact⟨nt,nb,rfl,by rw[gS ntq,fE],by rw[gS nbq];exact fF nnt _ _ fE,fL.free (S5.trans S7) nnb⟩
   ·intro vs8 H8 sm h8 D8
    refine⟨sm _ _ hf5,k q vs8 _ (fL.upd (S5.trans sm) nn) ?_⟩
    refine⟨by rw[fK hqn];exact h8,fL.free S5 nq,?_⟩
    have hh:hid q (upd H8 n (.dT (kvR (fY es))))=upd (hid q H8) n (.dT (kvR (fY es))):=by
     funext c
     by_cases e1:c=q
     ·subst e1;rw[kB,fK hqn,kB]
     ·rw[gS e1]
      by_cases e2:c=n
      ·subst e2;rw[fE,fE]
      ·rw[fK e2,fK e2,gS e1]
    rw[hh]
    exact D8.imp λr v=>mV.Lc r v (by rw[gS (bI hqn)];exact sm _ _ hf5)
end
variable {H':Hp}{p:Addr}{ts:List (List Int)}
theorem og.post {H'':Hp}{bs:List Addr}(s:fL H' H'')(h:og H H' p bs ts):og H H'' p bs ts:=
 ⟨h.same.trans s,h.new,s _ _ h.at_,h.len,λi b t h1 h2=>⟨(h.each i b t h1 h2).1,(h.each i b t h1 h2).2.1,s _ _ (h.each i b t h1 h2).2.2⟩,h.nd⟩
noncomputable def gOk (l:Ln)(ns gs:List Int):Prop:=isT l gs/\gs.length=ns.length
noncomputable def xB (K:PySem.W.Frag)(c2:Addr):Sp:=λvs H Q E=>∃ (v u g:V) (l:Ln) (ns gs:List Int),vs = [v,u,g]/\Da K H (dL l) v/\Da K H (dI ns) u/\Da K H (dI gs) g/\gj l/\gs.length<=900/\
 (gOk l ns gs->∀ H',fL H H'->Q .non H')/\(¬gOk l ns gs->∀ H',fL H H'->∀ e,H' e=none->E (.ref c2) (some e) H')
structure zZ (K:PySem.W.Frag)(c2 c5:Addr)(l:Ln)(ns gs:List Int)(H:Hp)(Q:VK)(E:XK):Prop where
 bad:¬gOk l ns gs->∀ H',fL H H'->∀ e,H' e=none->E (.ref c2) (some e) H'
 many:gOk l ns gs->(∃ i,300<(fR l ns i).length)->∀ H',fL H H'->∀ e,H' e=none->E (.ref c5) (some e) H'
 no:gOk l ns gs->∀ i,(fR l ns i).length=i->i<=300->gs∉(fR l ns i).map (·.1)->∀ r q bs H',og H H' q bs ((fR l ns i).map (·.1))->H' r=some (.tup [.str "none",.ref q])->H r=none->Q (.ref r) H'
 yes:gOk l ns gs->∀ i,(fR l ns i).length=i->i<=300->gs∈(fR l ns i).map (·.1)->∀ r q1 run q2 us H',fL H H'->vF K H' q1 run->H q1=none->qC (fR l ns i) gs run->tu H H' q2 (fY (fR l ns i)) us->q1≠q2->H' r=some (.tup [.str "run",.ref q1,.ref q2])->H r=none->Q (.ref r) H'
noncomputable def ug (K:PySem.W.Frag)(c2 c5:Addr):Sp:=λvs H Q E=>∃ (v u g:V) (l:Ln) (ns gs:List Int),vs = [v,u,g]/\Da K H (dL l) v/\Da K H (dI ns) u/\Da K H (dI gs) g/\gj l/\ns≠ []/\ns.length<=900/\jf l ns/\gs.length<=900/\zZ K c2 c5 l ns gs H Q E
noncomputable abbrev kz:Stmt:=top 21
theorem vP:gf ["line","train","goal"] ["line","train","goal"] (fM kz):=⟨rfl,rfl,rfl,by decide +kernel,rfl,by decide +kernel,by decide +kernel⟩
noncomputable abbrev qU:Stmt:=top 27
theorem uw:gf ["line","train","goal","steps","aim"] ["line","train","goal"] (fM qU):=⟨rfl,rfl,rfl,by decide +kernel,rfl,by decide +kernel,by decide +kernel⟩
variable {f5:Addr}{fd5:FuncData}
section
variable {P:Program}{w:World}{K:PySem.W.Frag}{mg:Str->Option Value}{base:Heap}{f:Addr}{fd:FuncData}{c2 c5:Addr}
theorem vT (F:Fn K mg "check_goal" kz ["line","train","goal"] f fd)(XS:Xr K mg c2)(B:Bm mg)
  (hV:Fn K mg "check_train" jv ["line","train"] f1 fd1) (jy:fV P w K mg base (CXr P w base) 2 f1 fd1 ["line","train"] (uk K c2)):fV P w K mg base (CXr P w base) 3 f fd ["line","train","goal"] (xB K c2):=by
 refine F.F.okX vP (λvs H Q E h=>?_) (λcdv A outer s H vs Q E hr h=>?_)
 ·obtain⟨v,u,g,l,ns,gs,rfl,_⟩:=h;rfl
 ·obtain⟨v,u,g,l,ns,gs,rfl,hv,hu,hg,ok,gl,k1,k2⟩:=h
  obtain⟨a,rfl,ha⟩:=ij.mp hu
  obtain⟨b,rfl,hb⟩:=ij.mp hg
  refine⟨_,(fH (gX (fP jy (hr.mono (by decide)) rfl hV.m hV.F.kp hV.b .nil kQ (fD (pv 0) (fD (pv 2) fG))))
 (fJ (gR (gC (Au (gd gw rfl B.len cu (fD (pv 2) fG)) (gd gw rfl B.len cu (fD (pv 1) fG))))
 (fJ (nS mr rfl rfl XS.jm.m XS.jm.q cg (fD gO fG))) fZ))),?_⟩
  refine⟨_,rfl,_,rfl,_,_,l,gs,rfl,hv,hg,ok,gl,λit H1 s1=>?_,λz H1 s1 e he=>k2 (λy=>z y.1) H1 s1 e he⟩
  refine⟨_,rfl,b,_,rfl,.inl (s1.seq hb),_,rfl,a,_,rfl,.inl (s1.seq ha),_,_,rfl,rfl,_,rfl,ip (λh=>?_) (λh=>?_)⟩
  ·have h:((gs.map V.int).length:Int)≠((ns.map V.int).length:Int):=by simpa using h
   rw[aa,aa]at h
   exact⟨by decide,λe he=>k2 (λz=>h (by rw[z.2])) H1 s1 e he⟩
  ·have h:((gs.map V.int).length:Int)=((ns.map V.int).length:Int):=by simpa using h
   rw[aa,aa]at h
   exact k1 ⟨it,by omega⟩ _ s1
theorem Ei (F:Fn K mg "least" qU ["line","train","goal"] f fd)(B:Bm mg)
  (ik:Fn K mg "check_goal" kz ["line","train","goal"] f1 fd1) (jQ:fV P w K mg base (CXr P w base) 3 f1 fd1 ["line","train","goal"] (xB K c2))
  (gz:Fn K mg "first_steps" ju ["line","train"] f2 fd2) (iA:fV P w K mg base (CXr P w base) 4 f2 fd2 ["line","train"] (qO K c5))
  (gP:Fn K mg "lists_of" jJ ["standings"] f3 fd3) (gG:Fn K mg "run_back_from" iT ["steps","goal"] f4 fd4) (jR:Fn K mg "numbers_of" ku ["steps"] f5 fd5):
  fV P w K mg base (CXr P w base) 5 f fd ["line","train","goal"] (ug K c2 c5):=by
 have mW:fV P w K mg base CX0 1 f3 fd3 ["standings"] (qw K):=sV gP B
 have lR:fV P w K mg base CX0 1 f4 fd4 ["steps","goal"] (Bp K):=si gG
 have yz:fV P w K mg base CX0 1 f5 fd5 ["steps"] (Be K):=vR jR B
 refine F.F.okX uw (λvs H Q E h=>?_) (λcdv A outer s H vs Q E hr h=>?_)
 ·obtain⟨v,u,g,l,ns,gs,rfl,_⟩:=h;rfl
 ·obtain⟨v,u,g,l,ns,gs,rfl,hv,hu,hg,ok,hne,hz,T,gl,k⟩:=h
  obtain⟨b,rfl,hb⟩:=ij.mp hg
  refine⟨_,(fH (gX (fP jQ (hr.mono (by decide)) rfl ik.m ik.F.kp ik.b .nil kQ (fD (pv 0) (fD (pv 1) (fD (pv 2) fG)))))
 (fH (fS (i:=3) uw.nd rfl (Or.inl rfl) (fP iA (hr.mono (by decide)) rfl gz.m gz.F.kp gz.b .nil kQ (fD (pv 0) (fD (pv 1) fG))))
 (fH (fS (i:=4) uw.nd rfl (Or.inl rfl) (fX gD rfl B.tuple cb (fD (pv 2) fG)))
 (fH (gR (gC (nU (jE hr) (pv 4) (pv 3)))
 (fJ (fW (gA (fD gO (fD (fP mW (hr.mono (by decide)) rfl gP.m gP.F.kp gP.b .nil gv (fD (pv 3) fG)) fG))))) fZ)
 (fJ (fW (gA (fD gO (fD (fP lR (hr.mono (by decide)) rfl gG.m gG.F.kp gG.b .nil gv (fD (pv 3) (fD (pv 4) fG))) (fD (fP yz (hr.mono (by decide)) rfl jR.m jR.F.kp jR.b .nil gv (fD (pv 3) fG)) fG)))))))))),?_⟩
  refine⟨_,rfl,_,rfl,_,rfl,_,_,_,l,ns,gs,rfl,hv,hu,hg,ok,gl,λgo H1 s1=>?_,λgo H1 s1 e he=>k.bad go H1 s1 e he⟩
  refine⟨_,rfl,_,rfl,_,_,l,ns,rfl,Da.same s1 hv,Da.same s1 hu,ok,hne,hz,T,λi d us H2 hi zr s2 nd hs2=>?_,λz H2 s2 e he=>k.many go z H2 (s1.trans s2) e he⟩
  have E2:=j6 ok T hne i
  have S2:=s1.trans s2
  refine⟨_,rfl,b,_,rfl,.inl ⟨S2.seq hb,λt nt=>?_⟩⟩
  have s3:=fF (o:=.tup (gs.map V.int)) nt
  have ht:=fE (H:=H2) (a:=t) (o:=.tup (gs.map V.int))
  have hs3:=hs2.same s3
  have S3:=S2.trans s3
  generalize upd H2 t _=H3 at s3 ht hs3 S3 ⊢
  refine⟨_,rfl,_,rfl,d,_,rfl,oK.t (k:=kyI gs) hs3.at_ (by rw[hX];exact ht),_,rfl,?_⟩
  rw[hs3.mem gs]
  refine ip (λhn=>?_) (λhn=>?_)
  ·have hn:gs∉(fR l ns i).map (·.1):=by simpa using hn
   refine⟨_,rfl,d,_,_,rfl,hs3,by omega,λq bs H4 FR=>⟨by show 2<=sizeLine;decide,λr nr=>?_⟩⟩
   have s5:=fF (o:=.tup [.str "none",.ref q]) nr
   exact k.no go i hi zr hn r q bs _ (og.post s5 (FR.pre S3)) fE (fL.free (S3.trans FR.same) nr)
  ·have hn:gs∈(fR l ns i).map (·.1):=by simpa using hn
   refine⟨_,rfl,_,rfl,d,t,_,_,gs,rfl,hs3,ht,hn,pO l ns i,E2.nd,by omega,λq run H4 s4 nq ra pt=>?_⟩
   refine⟨_,rfl,d,_,_,rfl,hs3.same s4,pO l ns i,E2.nd,by omega,λq2 us2 H5 s5 R5=>⟨by show 3<=sizeLine;decide,λr nr=>?_⟩⟩
   have s6:=fF (o:=.tup [.str "run",.ref q,.ref q2]) nr
   have hqq:q≠q2:=by
    obtain⟨vs,h1,_⟩:=ra.ex
    exact fN h1 R5.new
   exact k.yes go i hi zr hn r q run q2 us2 _ (((S3.trans s4).trans s5).trans s6) (ra.same (s5.trans s6)) (fL.free S3 nq) pt ((R5.same s6).pre (S3.trans s4)) hqq fE (fL.free ((S3.trans s4).trans s5) nr)
end
noncomputable def yL (K:PySem.W.Frag):Sp:=λvs H Q _=>∃ (v:V) (l:Int×List (Int×Int)) (c n:Int),vs = [v,.int c,.int n]/\Da K H (dL l) v/\gj l/\0<=n/\n<=40/\
 ∀ (p:Addr) (ns:List Int) (H':Hp),fL H H'->H p=none->H' p=some (.lst (ns.map V.int))->ns≠ []->ns.length<=40->(ns.length:Int)<=max 1 n->jf l ns->Q (.ref p) H'
noncomputable abbrev kc:Stmt:=top 50
theorem kn:gf ["_law_line","_law_cell","_law_length","_law_train_here","_law_k","_law_pieces","_law_some"] ["_law_line","_law_cell","_law_length"] (fM kc):=⟨rfl,rfl,rfl,by decide +kernel,rfl,by decide +kernel,by decide +kernel⟩
theorem px:gF (fM kc) ["_law_line","_law_cell","_law_length","_law_train_here","_law_k","_law_pieces","_law_some"] {kind:=.function,names:=[(Str.ofString ".0",.local),(Str.ofString "_law_end",.local)],isGenerator:=false,isCoroutine:=false,more:=[]} ["_law_end"] 1 [none]:=⟨rfl,by decide +kernel,by decide +kernel,by decide +kernel,rfl,by decide +kernel,rfl,by decide +kernel⟩
theorem pq:gF (fM kc) ["_law_line","_law_cell","_law_length","_law_train_here","_law_k","_law_pieces","_law_some"] {kind:=.function,names:=[(Str.ofString ".0",.local),(Str.ofString "_law_end",.local),(Str.ofString "_law_pieces",.free)],isGenerator:=false,isCoroutine:=false,more:=[]} ["_law_end","_law_pieces"] 1 [none,some 5]:=⟨rfl,by decide +kernel,by decide +kernel,by decide +kernel,rfl,by decide +kernel,rfl,by decide +kernel⟩
section
variable {P:Program}{w:World}{K:PySem.W.Frag}{mg:Str->Option Value}{base:Heap}{f:Addr}{fd:FuncData}{D c1 c2 c3 c4 c5 c6 c7:Addr}
theorem xT (F:Fn K mg "_law_train" kc ["_law_line","_law_cell","_law_length"] f fd)(gh:Fn K mg "_law_mix" kO ["_law_cell","_law_k"] f1 fd1)(gT:Fn K mg "_law_other" lG ["_law_end"] f2 fd2)
  (gL:Fn K mg "_law_joined" ji ["_law_line","_law_end"] f3 fd3) (B:Bl mg):fV P w K mg base CX0 2 f fd ["_law_line","_law_cell","_law_length"] (yL K):=by
 have jx:fV P w K mg base CX0 1 f1 fd1 ["_law_cell","_law_k"] uf:=oz gh B
 have nk:fV P w K mg base CX0 1 f2 fd2 ["_law_end"] mE:=rn gT
 have ml:fV P w K mg base CX0 1 f3 fd3 ["_law_line","_law_end"] (mn K):=qo gL B
 refine F.F.ok kn (λvs H Q E h=>?_) (λcdv A outer s H vs Q E hr h=>?_)
 ·obtain⟨v,l,c,n,rfl,_⟩:=h;rfl
 ·obtain⟨v,l,c,n,rfl,hv,ok,h1,h40,k⟩:=h
  obtain⟨a,b,rfl,ht,us,hl,hq⟩:=oF hv
  have o1:=ok.one
  refine⟨_,(fH (fS (i:=3) kn.nd rfl (Or.inl rfl) (gJ (fD (fT i6 (fP jx (hr.mono (by decide)) rfl gh.m gh.F.kp gh.b .nil gv (fD (pv 1) (fD fI fG))) (fT kb fI (gY i7 (pv 0) fI (λ_ _=>rfl)))) fG)))
 (fH (ir aN rfl (wM rfl B.range (fD fI (fD (pv 2) fG))) (fO (i:=4) kn.nd rfl (Or.inl rfl))
 (fH (fS (i:=5) kn.nd rfl (Or.inr rfl) (lJ (gq (pv 3)) rfl px (.name (by decide)) (λ_ _ _ _=>(fO (i:=0) px.nd rfl (Or.inl rfl))) (λ_ _ _ _=>g8) (λ_ _ _ _=>(fT iW (pv 0) fI))))
 (fH (wK (i:=6) kn.nd rfl rfl (gq (fP ml (hr.mono (by decide)) rfl gL.m gL.F.kp gL.b .nil gv (fD (pv 0) (fD (fP nk (hr.mono (by decide)) rfl gT.m gT.F.kp gT.b .nil gv (fD (gY ig (pv 3) (qZ om fI) (λ_ _=>rfl)) fG)) fG)))) rfl pq (.name (by decide)) (λ_ _ _ _=>(fO (i:=0) pq.nd rfl (Or.inl rfl))) (λ_ _ _ _=>(mK (iC (uJ (K:=K) rfl hr.units) (fT iW (pv 0) fI) (pv 1) (by with_unfolding_all rfl)))) (λ_ _ _ _=>(pv 0)))
 (fH (gR (iC (Ef hr.units) (pv 6) (gJ fG) (jW _))
 (fJ (fW (pv 3))) fZ)
 (fJ (gX (kK aH bj bh iD (pv 3) (fD (gY ig (pv 6) (fT i6 (fP jx (hr.mono (by decide)) rfl gh.m gh.F.kp gh.b .nil gv (fD (pv 1) (fD (pv 4) fG))) (gd gw rfl B.len cu (fD (pv 6) fG))) (λ_ _=>rfl)) fG))))))))
 (fJ (fW (pv 3))))),?_⟩
  refine⟨_,rfl,c,0,rfl,by decide,by decide,λm m0 m1=>⟨_,rfl,a,_,_,_,rfl,rfl,ht,rfl,_,_,rfl,rfl,.inl ⟨by decide,by decide⟩,_,_,rfl,rfl,(by show(0:Int)<2*l.1;omega),by show 1<=sizeLine;decide,λt nt=>?_⟩⟩
  have e0:0<=m%(2*l.1):=dg _ (by omega)
  have e1:m%(2*l.1)<2*l.1:=cF _ (by omega)
  refine⟨_,rfl,1,n,rfl,⟨by decide,by decide,by omega,by omega⟩,pY (λi σ H3=>∃ (ns:List Int) (x4 x5 x6:Option V),σ = [some (.ref a),some (.int c),some (.int n),some (.ref t),x4,x5,x6]/\fL H H3/\H3 t=some (.lst (ns.map V.int))/\ns≠ []/\ns.length=i+1/\jf l ns)
   ⟨[m%(2*l.1)],none,none,none,rfl,fF nt,fE,by simp,rfl,⟨λe he=>(by rw[bH.mp he];exact⟨e0,e1⟩),by simp,λi x y hx hy=>by simp at hy⟩⟩ ?_ ?_⟩
  ·rintro i σ H3 hi ⟨ns,x4,x5,x6,rfl,S3,ht3,hne,nl,T⟩
   have hi':i+1<=39:=by
    have h:i<(n-1).toNat:=hi
    omega
   refine⟨_,rfl,t,rfl,⟨_,SqL.of ht3⟩,λpc npc=>mf ns (λ_=>true) (λe=>V.int (e/2)) npc (SqL.of ht3) (by rw[aa]) (by rw[aa];exact jC (by omega)) ?_ ?_⟩
   ·intro j x d H' hx hd sm P1 P0 k1 k0
    rw[ah,hd]at hx
    cases hx
    refine iX ?_
    exact⟨_,rfl,_,_,rfl,rfl,⟨by decide,by decide⟩,k1 rfl⟩
   rw[kU]
   have e1:(ns.map λe=>V.int (e/2))=(ns.map (· / 2)).map V.int:=by rw[bo];rfl
   rw[e1]
   have s4:fL H3 (upd H3 pc (.lst ((ns.map (· / 2)).map V.int))):=fF npc
   refine⟨_,rfl,_,rfl,_,rfl,t,_,_,_,rfl,rfl,SqL.of (s4 _ _ ht3),yt hne,_,rfl,_,l,_,rfl,Da.same (S3.trans s4) hv,ok,λp H5 s5 hp hp2=>⟨p,rfl,⟨_,SqL.of hp2⟩,λq nq=>mf (jn l.2 (oth (ns.getLastD 0))) (λt=> !decide (t/2∈ns.map (· / 2))) (λt=>V.int t) nq (SqL.of hp2) (by rw[aa]) ?_ ?_ ?_⟩⟩
   ·rw[aa]
    refine jC ?_
    unfold jn
    rw[oq,ak]
    have:=p6 ok (oth (ns.getLastD 0))
    omega
   ·intro j x d H' hx hd sm P1 P0 k1 k0
    rw[ah,hd]at hx
    cases hx
    have hD:Da K H' (.list ((ns.map (· / 2)).map .int)) (.ref pc):=Da.same (s5.trans sm) (jc fE)
    refine⟨_,rfl,_,_,rfl,rfl,⟨by decide,by decide⟩,_,rfl,_,.int (d/2),hD,iB.mpr rfl,uR _,ro _,_,rfl,?_⟩
    rw[zY]
    exact ip (λh=>⟨_,rfl,k1 h⟩) (λh=>k0 (by simpa using h))
   have efr:((jn l.2 (oth (ns.getLastD 0))).filter λt=> !decide (t/2∈ns.map (· / 2)))=fr l ns (oth (ns.getLastD 0)):=rfl
   rw[efr]
   have S6:fL H3 (upd H5 q (.lst ((fr l ns (oth (ns.getLastD 0))).map V.int))):=(s4.trans s5).trans (fF nq)
   refine⟨_,rfl,aI _,λe ne=>?_⟩
   have s7:=fF (o:=.lst []) ne
   have hq7:=s7 _ _ (fE (H:=H5) (a:=q) (o:=.lst ((fr l ns (oth (ns.getLastD 0))).map V.int)))
   refine⟨dI (fr l ns (oth (ns.getLastD 0))),.list [],jc hq7,jc (ns:=[]) fE,uS _,Ge,_,rfl,?_⟩
   have ee:PyData.eqv (dI (fr l ns (oth (ns.getLastD 0)))) (.list [])=((fr l ns (oth (ns.getLastD 0))).map PyData.int).isEmpty:=ym _
   rw[ee]
   refine ip (λ_=>?_) (λhem=>?_)
   ·exact⟨_,rfl,k t ns _ (S3.trans (S6.trans s7)) nt (s7 _ _ (S6 _ _ ht3)) hne (by omega) (by have h:i<(n-1).toNat:=hi;omega) T⟩
   ·have CQ:0<(fr l ns (oth (ns.getLastD 0))).length:=by
     cases hh:fr l ns (oth (ns.getLastD 0))with
     |nil=>rw[hh]at hem;exact absurd rfl hem
     |cons x r=>simp
    refine⟨_,rfl,.inl ⟨rfl,_,SqL.of (s7 _ _ (S6 _ _ ht3))⟩,_,rfl,_,rfl,_,rfl,c,_,rfl,by show(0:Int)<=1+(i:Int);omega,by show 1+(i:Int)<=1000;omega,λm m0 m1=>?_⟩
    have r0:0<=m%((fr l ns (oth (ns.getLastD 0))).length:Int):=dg _ (by omega)
    have r1:m%((fr l ns (oth (ns.getLastD 0))).length:Int)<((fr l ns (oth (ns.getLastD 0))).length:Int):=cF _ (by omega)
    obtain⟨x,_,ph,hat⟩:=yu r0 r1
    refine⟨_,rfl,q,_,rfl,.inl (SqL.of hq7),_,_,rfl,rfl,?_,q,_,_,V.int x,rfl,rfl,SqL.of hq7,?_,t,_,_,rfl,rfl,s7 _ _ (S6 _ _ ht3),?_,?_⟩
    ·show(0:Int)<(((fr l ns (oth (ns.getLastD 0))).map V.int).length:Int)
     rw[aa];omega
    ·show atI _ (m%(((fr l ns (oth (ns.getLastD 0))).map V.int).length:Int))=_
     rw[aa];exact hat
    ·rw[aa];exact jC (by omega)
    refine⟨ns ++ [x],_,_,_,rfl,fL.upd (S3.trans (S6.trans s7)) nt,?_,by simp,by rw[ak,nl];rfl,T.snoc ok hne ph⟩
    rw[fE,av];rfl
  rintro σ H3 ⟨ns,x4,x5,x6,rfl,S3,ht3,hne,nl,T⟩
  refine⟨_,rfl,k t ns _ S3 nt ht3 hne ?_ (by rw[nl];omega) T⟩
  have h:ns.length=(n-1).toNat+1:=nl
  omega
end
noncomputable def yG (l:Ln)(s:Sta):Prop:=jf l s.1/\s.1≠ []/\s.1.length<=900
theorem yG.step {l:Ln}(ok:gj l){s:Sta}{m:Mv}(h:yG l s)(hm:m∈mvs l s.1):yG l (m.2,s.2):=by
 obtain⟨h1,h2,h3⟩:=Eu ok h.1 h.2.1 hm
 exact⟨h1,h3,by rw[h2];exact h.2.2⟩
variable {P:Program}{w:World}{d b:Addr}{xs:List V}
theorem DD {kvs:KvN}(hd:H d=some (nD P w d kvs))(h:SqL K H b xs):SqL K (hid d H) b xs:=by
 rcases h with(h |⟨o,h⟩)|h
 ·exact .inl (.inl (by rw[gS (gy h hd (λz=>nomatch z))];exact h))
 ·exact .inl (.inr ⟨o,by rw[gS (gy h hd (λz=>nomatch z))];exact h⟩)
 ·exact .inr h
theorem yJ {kvs:KvN}(hd:H d=some (nD P w d kvs))(h:SqT K H b xs):SqT K (hid d H) b xs:=by
 rcases h with(h |⟨o,h⟩)|h
 ·exact .inl (.inl (by rw[gS (gy h hd (λz=>nomatch z))];exact h))
 ·exact .inl (.inr ⟨o,by rw[gS (gy h hd (λz=>nomatch z))];exact h⟩)
 ·exact .inr h
theorem GH {kvs:KvN}{x:PyData}{v:V}(hd:H d=some (nD P w d kvs))(h:Da K H x v):Da K (hid d H) x v:=Dg.mono (λ_ _ q=>DD hd q) (λ_ _ q=>yJ hd q) h
theorem CD {c:Addr}{kvs:KvN}{k:SK}(hd:H d=some (nD P w d kvs))(h:jP H c k):jP (hid d H) c k:=h.kH λb ys q=>by rw[gS (gy q hd (λz=>nomatch z))];exact q
theorem StN.list {es:List EnS}{cs:List Addr}{us ys:List V}(h:StN P w K H d es cs us)(hp:H p=some (.lst xs)):StN P w K (upd H p (.lst ys)) d es cs us:=by
 have pd:d≠p:=gy h.dn.at_ hp (λz=>nomatch z)
 have f:∀ b zs,H b=some (.tup zs)->(upd H p (.lst ys)) b=some (.tup zs):=λb zs q=>by rw[fK (gy q hp (λz=>nomatch z))];exact q
 refine⟨⟨by rw[fK pd];exact h.dn.at_,λq hq=>(h.dn.keys q hq).kH f⟩,h.lc,h.lv,λi e v h1 h2=>(h.each i e v h1 h2).to f λb zs q=>lX hp q⟩
noncomputable def Bh (P:Program)(w:World)(K:PySem.W.Frag):Sp:=λvs H Q _=>∃ (v:V) (p d:Addr) (l:Ln) (es:List EnS) (cs:List Addr) (us:List V) (ss:List Sta) (as:List Addr),vs = [v,.ref p,.ref d]/\Da K H (dL l) v/\StL H p as ss/\StN P w K H d es cs us/\gj l/\
 (∀ s∈ss,yG l s)/\(∀ i,(goS l (es,ss) i).2.length<=1000/\(goS l (es,ss) i).1.length<=1000)/\
 ∀ i q as' cs' us' H',(goS l (es,ss) i).2.length=i->fL (hid d H) H'->H q=none->StL H' q as' (goS l (es,ss) i).2->StN P w K H' d (goS l (es,ss) i).1 cs' us'->Q (.ref q) H'
noncomputable def at4 (σ:L2.St)(_:Hp):Nat:=match (σ[4]? :Option (Option V))with
 |some (some (V.int i))=>(1001-i).toNat
 |_=>0
noncomputable abbrev pS:Stmt:=top 35
theorem jh:gf ["line","states","steps","found","at","standing","word","move","behind","state"] ["line","states","steps"] (fM pS):=⟨rfl,rfl,rfl,by decide +kernel,rfl,by decide +kernel,by decide +kernel⟩
section
variable {P:Program}{w:World}{K:PySem.W.Frag}{mg:Str->Option Value}{base:Heap}{f:Addr}{fd:FuncData}
theorem Az (F:Fn K mg "gone_on" pS ["line","states","steps"] f fd)(B:Bm mg)(gE:Fn K mg "moves_of" j9 ["line","train"] f1 fd1)
  (iK:fV P w K mg base CX0 3 f1 fd1 ["line","train"] (mF K)):fV P w K mg base CX0 4 f fd ["line","states","steps"] (Bh P w K):=by
 refine F.F.ok jh (λvs H Q E h=>?_) (λcdv A outer s H vs Q E hr h=>?_)
 ·obtain⟨v,p,d,l,es,cs,us,ss,as,rfl,_⟩:=h;rfl
 ·obtain⟨v,p0,d,l,es,cs,us,ss,as0,rfl,hv,hL,hN,ok,hss,hb,k⟩:=h
  have Hq:=tR (l:=l) (P:=yG l) (λs m h hm=>h.step ok hm) (x:=(es,ss)) hss
  generalize hgo:goS l (es,ss)=go at hb k Hq
  have go0:go 0=(es,ss):=by rw[<-hgo];rfl
  have AS:∀ {i s},(go i).2[i]? = some s->go (i+1)=ic s.1 s.2 (mvs l s.1) (go i):=λ{i s} h=>by rw[<-hgo]at h ⊢;exact zF h
  refine⟨_,(fH (fS (i:=3) jh.nd rfl (Or.inl rfl) (fX iM rfl B.list de (fD (pv 1) fG)))
 (fH (fS (i:=4) jh.nd rfl (Or.inl rfl) fI)
 (fH (nR aN (gC (wQ (pv 4) (gd gw rfl B.len cu (fD (pv 3) fG))))
 (fH (oZ (gY ig (pv 3) (pv 4) (λ_ _=>rfl)) (iu (n:=2) rfl (fQ (fO (i:=5) jh.nd rfl (Or.inl rfl)) (fQ (fO (i:=6) jh.nd rfl (Or.inl rfl)) gQ))))
 (fH (Aq (i:=4) jh.nd rfl (Or.inl rfl) fI AM)
 (fJ (ir aN rfl (gq (fP iK (hr.mono (by decide)) rfl gE.m gE.F.kp gE.b .nil gv (fD (pv 0) (fD (fX iM rfl B.list de (fD (pv 5) fG)) fG)))) (iu (n:=2) rfl (fQ (fO (i:=7) jh.nd rfl (Or.inl rfl)) (fQ (fO (i:=8) jh.nd rfl (Or.inl rfl)) gQ)))
 (fH (fS (i:=9) jh.nd rfl (Or.inl rfl) (gA (fD (fX gD rfl B.tuple cb (fD (pv 8) fG)) (fD (pv 6) fG))))
 (fJ (gR (PW.pt (xJ (iC Eg (gY i7 (pv 7) fI (λ_ _=>rfl)) (pv 6) (jW _)) (tK (gC (wO (mO hr) (pv 9) (pv 2))))))
 (fH (xK (mO hr) (pv 2) (pv 9) (gA (fD (gA (fD (pv 5) (fD (pv 6) fG))) (fD (pv 7) fG))) rfl)
 (fJ (gX (kK aH bj bh iD (pv 3) (fD (pv 9) fG))))) fZ))))))))
 (fJ (fW (pv 3)))))),?_⟩
  refine⟨_,rfl,p0,_,rfl,.inl (SqL.of hL.at_),λp np=>?_⟩
  have s1:=fF (o:=.lst (as0.map V.ref)) np
  have hp1:=fE (H:=H) (a:=p) (o:=.lst (as0.map V.ref))
  have hN1:=hN.same s1
  have hL1:StL (upd H p (.lst (as0.map V.ref))) p as0 ss:=⟨hp1,hL.len,λi a t h1 h2=>(hL.each i a t h1 h2).same s1⟩
  have S1:fL (hid d H) (upd H p (.lst (as0.map V.ref))):=ja.trans s1
  generalize upd H p _=H1 at s1 hp1 hN1 hL1 S1 ⊢
  refine rX (λσ H4=>∃ (i:Nat) (as cs:List Addr) (us:List V) (x5 x6 x7 x8 x9:Option V),σ = [some v,some (.ref p0),some (.ref d),some (.ref p),some (.int i),x5,x6,x7,x8,x9]/\fL (hid d H) H4/\StN P w K H4 d (go i).1 cs us/\StL H4 p as (go i).2/\i<=(go i).2.length)
   at4 ⟨0,as0,cs,us,none,none,none,none,none,rfl,S1,by rw[go0];exact hN1,by rw[go0];exact hL1,aI _⟩ ?_ ?_
  ·rintro σ H4 N1 R1 B1 kN1 _ kB1 ⟨i,as,cs,us,x5,x6,x7,x8,x9,rfl,S4,hN4,hL4,hi⟩
   have hbi:=hb i
   refine⟨_,rfl,_,rfl,p,_,rfl,.inl (SqL.of hL4.at_),_,_,rfl,rfl,_,rfl,ip (λhlt=>?_) (λhlt=>?_)⟩
   ·have hlt:(i:Int)<((as.map V.ref).length:Int):=by simpa using hlt
    rw[aa,hL4.len]at hlt
    have hi2:i<(go i).2.length:=by omega
    have he:(go i).2[i]? = some ((go i).2[i]):=by simp
    generalize (go i).2[i]=st at he
    have hst:=Hq i st (au he)
    obtain⟨b,hbi⟩:∃ b,as[i]? = some b:=⟨as[i]'(by rw[hL4.len];exact hi2),ag _⟩
    obtain⟨bt,hk1,hk2⟩:=hL4.each i b st hbi he
    have hk1:H4 b=some (.tup [.ref bt,.str st.2]):=hk1
    have hk2:H4 bt=some (.tup (st.1.map V.int)):=by have:=hk2;rw[show(kS st).1=kyI st.1 from rfl,hX]at this;exact this
    refine⟨_,rfl,_,rfl,p,_,_,_,rfl,rfl,SqL.of hL4.at_,yr (v:=V.ref b) (by omega) (by rw[ah,show((i:Int)).toNat=i by omega,hbi];rfl),?_⟩
    refine⟨b,_,rfl,SqT.of hk1,rfl,_,_,rfl,_,_,rfl,rfl,?_⟩
    refine⟨_,rfl,_,_,rfl,rfl,?_⟩
    refine⟨_,rfl,_,rfl,bt,_,rfl,.inr (SqT.of hk2),λq nq=>?_⟩
    have s5:=fF (o:=.lst (st.1.map V.int)) nq
    have hq5:=fE (H:=H4) (a:=q) (o:=.lst (st.1.map V.int))
    generalize upd H4 q _=H5 at s5 hq5 ⊢
    refine⟨_,_,l,st.1,rfl,Da.same (S4.trans s5) (GH hN.dn.at_ hv),jc hq5,ok,hst.2.1,hst.2.2,λpm vm H6 s6 hpm zw Dm=>?_⟩
    have s46:=s5.trans s6
    have S6:=S4.trans s46
    have hN6:=hN4.same s46
    have hL6:=hL4.same s46
    have Ez:(mvs l st.1).length=vm.length:=by have:=Dm.length;rw[aa]at this;exact this.symm
    have AR:=s46 _ _ hk2
    have pmp:pm≠p:=bI (fN (s5 _ _ hL4.at_) hpm)
    have pmd:pm≠d:=bI (fN (s5 _ _ hN4.dn.at_) hpm)
    have Js:∀ {a xs},SqT K H6 a xs->SqT K (zz d p H6) a xs:=λ{a xs} h=>tQ (p:=p) (H:=hid d H6) (by rw[gS (gy hL6.at_ hN6.dn.at_ (λz=>nomatch z))];exact hL6.at_) (yJ hN6.dn.at_ h)
    refine⟨pm,rfl,⟨_,SqL.of zw⟩,iP (K:=K) (a:=pm) (xs:=vm) (λj σ H7=>∃ (as' cs':List Addr) (us':List V) (x7 x8 x9:Option V),σ = [some v,some (.ref p0),some (.ref d),some (.ref p),some (.int ((i:Int)+1)),some (.ref bt),some (.str st.2),x7,x8,x9]/\
      fL (hid d H) H7/\fL (zz d p H6) H7/\StN P w K H7 d (ic st.1 st.2 ((mvs l st.1).take j) (go i)).1 cs' us'/\StL H7 p as' (ic st.1 st.2 ((mvs l st.1).take j) (go i)).2)
     ⟨as,cs,us,x7,x8,x9,rfl,S6,λb u h=>ja (p:=d) b u (ja (p:=p) b u h),hN6,hL6⟩ (λj σ H7 _ ⟨_,_,_,_,_,_,_,_,sm,_⟩=>SqL.of (sm _ _ (by rw[ni pmd pmp];exact zw))) ?_ ?_⟩
    ·rintro j y σ H7 N R B kN _ hj ⟨as',cs',us',y7,y8,y9,rfl,S7,sm,hN7,hL7⟩
     obtain⟨m,ad,p1,bb,hm,rfl,ht,dm,hbb,nbb,_⟩:=BC Dm hj
     obtain⟨a1,ea1,htm⟩:=I0 dm
     cases ea1
     have bbp:bb≠p:=bI (fN (s5 _ _ hL4.at_) nbb)
     have bbd:bb≠d:=bI (fN (s5 _ _ hN4.dn.at_) nbb)
     have ht7:=gx sm (Js ht)
     have IE:=gx sm (Js htm)
     have CU:H7 bb=some (.lst (m.2.map V.int)):=sm _ _ (by rw[ni bbd bbp];exact hbb)
     have hb7:H7 bt=some (.tup (st.1.map V.int)):=sm _ _ (by rw[ni (gy AR hN6.dn.at_ (λz=>nomatch z)) (gy AR hL6.at_ (λz=>nomatch z))];exact AR)
     refine⟨ad,_,rfl,ht7,rfl,_,_,rfl,_,_,rfl,rfl,?_⟩
     refine⟨_,rfl,bb,_,rfl,.inl ⟨SqL.of CU,λt nt=>⟨_,rfl,by show 2<=sizeLine;decide,λc nc=>?_⟩⟩⟩
     have s8:=(fF (o:=.tup (m.2.map V.int)) nt).trans (fF (o:=.tup [.ref t,.str st.2]) nc)
     have hc8:=fE (H:=upd H7 t (.tup (m.2.map V.int))) (a:=c) (o:=.tup [.ref t,.str st.2])
     have ht8:=(fF (o:=.tup [.ref t,.str st.2]) nc) _ _ (fE (H:=H7) (a:=t) (o:=.tup (m.2.map V.int)))
     have hN8:=hN7.same s8
     have hL8:=hL7.same s8
     have S8:=S7.trans s8
     have sm8:=sm.trans s8
     have hb8:=s8 _ _ hb7
     have CP:=gx s8 IE
     generalize upd (upd H7 t _) c _=H8 at s8 hc8 ht8 hN8 hL8 S8 sm8 hb8 CP ⊢
     have EM:jP H8 c (kS (m.2,st.2)):=⟨t,hc8,by rw[show(kS (m.2,st.2)).1=kyI m.2 from rfl,hX];exact ht8⟩
     have oS:ic st.1 st.2 ((mvs l st.1).take (j+1)) (go i)=lQ st.1 st.2 (ic st.1 st.2 ((mvs l st.1).take j) (go i)) m:=Ak hm
     have sl:(ic st.1 st.2 ((mvs l st.1).take j) (go i)).2.length<=1000/\(ic st.1 st.2 ((mvs l st.1).take j) (go i)).1.length<=1000:=by
      have h1:=uv st.1 st.2 (mvs l st.1) (go i) j
      have h2:=hb (i+1)
      rw[AS he]at h2
      exact⟨bw h1.1.length_le h2.1,bw h1.2.length_le h2.2⟩
     have old:¬(m.1.1=st.2/\(m.2,st.2)∉(ic st.1 st.2 ((mvs l st.1).take j) (go i)).1.map (·.1))->N [some v,some (V.ref p0),some (.ref d),some (.ref p),some (.int ((i:Int)+1)),some (.ref bt),some (.str st.2),some (.ref p1),some (.ref bb),some (.ref c)] H8:=λh=>kN _ _ (by
      have e:ic st.1 st.2 ((mvs l st.1).take (j+1)) (go i)=ic st.1 st.2 ((mvs l st.1).take j) (go i):=by
       rw[oS];unfold lQ;rw[aG h]
      rw[e]
      exact⟨as',cs',us',_,_,_,rfl,S8,sm8,hN8,hL8⟩)
     refine⟨_,rfl,p1,_,_,_,rfl,rfl,CP,rfl,_,rfl,rfl,_,rfl,ip (λhw=>?_) (λhw=>?_)⟩
     ·have hw:m.1.1=st.2:=by simpa using hw
      refine⟨_,rfl,_,rfl,d,_,c,_,rfl,rfl,hN8.dn,EM,_,rfl,ip (λhn=>?_) (λhn=>?_)⟩
      ·have hn:(m.2,st.2)∉(ic st.1 st.2 ((mvs l st.1).take j) (go i)).1.map (·.1):=λz=>by
        rw[(hN8.mem (m.2,st.2)).mpr z]at hn;cases hn
       have nL:ic st.1 st.2 ((mvs l st.1).take (j+1)) (go i)=((ic st.1 st.2 ((mvs l st.1).take j) (go i)).1 ++ [((m.2,st.2),some ((st.1,st.2),some m.1))],(ic st.1 st.2 ((mvs l st.1).take j) (go i)).2 ++ [(m.2,st.2)]):=by
        rw[oS];unfold lQ;rw[aQ ⟨hw,hn⟩]
       refine⟨_,rfl,_,rfl,by show 2<=sizeLine;decide,λc2 nc2=>⟨_,rfl,by show 2<=sizeLine;decide,λa2 na2=>?_⟩⟩
       have s9:=(fF (o:=.tup [.ref bt,.str st.2]) nc2).trans (fF (o:=.tup [.ref c2,.ref p1]) na2)
       have ha9:=fE (H:=upd H8 c2 (.tup [.ref bt,.str st.2])) (a:=a2) (o:=.tup [.ref c2,.ref p1])
       have hc9:=(fF (o:=.tup [.ref c2,.ref p1]) na2) _ _ (fE (H:=H8) (a:=c2) (o:=.tup [.ref bt,.str st.2]))
       have hN9:=hN8.same s9
       have hL9:=hL8.same s9
       have S9:=S8.trans s9
       have sm9:=sm8.trans s9
       have ye:=EM.same s9
       have hb9:=s9 _ _ hb8
       have ES:=gx s9 CP
       generalize upd (upd H8 c2 _) a2 _=H9 at s9 ha9 hc9 hN9 hL9 S9 sm9 ye hb9 ES ⊢
       have bk9:A9 K H9 (some ((st.1,st.2),some m.1)) (.ref a2):=⟨a2,c2,p1,rfl,ha9,⟨bt,hc9,by rw[show(kS (st.1,st.2)).1=kyI st.1 from rfl,hX];exact hb9⟩,ES⟩
       refine⟨_,rfl,_,rfl,d,_,c,_,rfl,rfl,hN9.dn,ye,j4 (by rw[BJ hN9.lc hN9.lv];omega),?_⟩
       have g1:=hN9.push (e:=((m.2,st.2),some ((st.1,st.2),some m.1))) hn ye bk9
       have pd:p≠d:=gy hL9.at_ hN9.dn.at_ (λz=>nomatch z)
       have hp9:(upd H9 d (nD P w d (putN (kvN (ic st.1 st.2 ((mvs l st.1).take j) (go i)).1 cs' us') (kS ((m.2,st.2):Sta)) c (.ref a2)))) p=some (.lst (as'.map V.ref)):=by rw[fK pd];exact hL9.at_
       refine⟨_,rfl,.inl ⟨rfl,_,SqL.of hp9⟩,_,rfl,p,_,_,rfl,rfl,hp9,j4 (by rw[aa,hL9.len];omega),?_⟩
       have tp:∀ b ys,(upd H9 d (nD P w d (putN (kvN (ic st.1 st.2 ((mvs l st.1).take j) (go i)).1 cs' us') (kS ((m.2,st.2):Sta)) c (.ref a2)))) b=some (.tup ys)->(upd (upd H9 d (nD P w d (putN (kvN (ic st.1 st.2 ((mvs l st.1).take j) (go i)).1 cs' us') (kS ((m.2,st.2):Sta)) c (.ref a2)))) p (.lst (as'.map V.ref ++ [.ref c]))) b=some (.tup ys):=λb ys q=>by rw[fK (gy q hp9 (λz=>nomatch z))];exact q
       have tq:∀ b ys,H9 b=some (.tup ys)->(upd (upd H9 d (nD P w d (putN (kvN (ic st.1 st.2 ((mvs l st.1).take j) (go i)).1 cs' us') (kS ((m.2,st.2):Sta)) c (.ref a2)))) p (.lst (as'.map V.ref ++ [.ref c]))) b=some (.tup ys):=λb ys q=>tp b ys (by rw[fK (gy q hN9.dn.at_ (λz=>nomatch z))];exact q)
       refine kN _ _ ⟨as' ++ [c],cs' ++ [c],us' ++ [.ref a2],_,_,_,rfl,?_,vj sm9,?_,?_⟩
       ·intro b o hb'
        have hbd:b≠d:=λz=>by rw[z,kB]at hb';cases hb'
        have hbp:b≠p:=λz=>by
         rw[z,gS (λz=>pd z),np]at hb';cases hb'
        rw[fK hbp,fK hbd];exact S9 _ _ hb'
       ·rw[nL];exact StN.list g1 hp9
       ·rw[nL];exact hL9.push tq fE (ye.kH tq)
      ·refine old λz=>?_
       have:(valN (kvN (ic st.1 st.2 ((mvs l st.1).take j) (go i)).1 cs' us') (kS (m.2,st.2))).isSome=true:=aJ λy=>hn (by rw[Bool.not_eq_true]at y;rw[y];rfl)
       exact z.2 ((hN8.mem _).mp this)
     ·exact jO (old λz=>hw (by simp[z.1]))
    ·rintro σ H7 ⟨as',cs',us',y7,y8,y9,rfl,S7,sm,hN7,hL7⟩
     rw[<-Ez,aX,<-AS he]at hN7 hL7
     have zu:=(mq st.1 st.2 (mvs l st.1) (go i)).1.length_le
     rw[<-AS he]at zu
     refine kN1 _ _ ⟨i+1,as',cs',us',_,_,_,_,_,rfl,S7,hN7,hL7,by omega⟩ ?_
     show(1001-((i:Int)+1)).toNat<(1001-(i:Int)).toNat
     omega
   ·have hlt:¬(i:Int)<((as.map V.ref).length:Int):=by simpa using hlt
    rw[aa,hL4.len]at hlt
    exact kB1 _ _ ⟨_,rfl,k i p as cs us H4 (by omega) S4 np hL4 hN4⟩
  ·rintro σ H Q Q' hq ⟨x,e1,y,e2,p',ys,e3,h4,i',j',e5,e6,c,e7,q⟩
   exact⟨x,e1,y,e2,p',ys,e3,h4,i',j',e5,e6,c,e7,hq _ _ q⟩
end
noncomputable def wo (P:Program)(w:World)(K:PySem.W.Frag):Sp:=λvs H Q _=>∃ (p d:Addr) (es:List EnS) (cs:List Addr) (us:List V) (ss:List Sta) (as:List Addr),vs = [.ref p,.ref d]/\StL H p as ss/\StN P w K H d es cs us/\
 (∀ s∈ss,isW s.2)/\ss.length<=1000/\es.length<=1000/\
 ∀ q as' cs' us' H',fL (hid d H) H'->H q=none->StL H' q as' (chN ss es).2->StN P w K H' d (chN ss es).1 cs' us'->Q (.ref q) H'
noncomputable abbrev kA:Stmt:=top 36
theorem jo:gf ["states","steps","found","standing","word","state"] ["states","steps"] (fM kA):=⟨rfl,rfl,rfl,by decide +kernel,rfl,by decide +kernel,by decide +kernel⟩
section
variable {P:Program}{w:World}{K:PySem.W.Frag}{mg:Str->Option Value}{base:Heap}{f od:Addr}{fd:FuncData}
theorem tD (F:Fn K mg "changed_over" kA ["states","steps"] f fd)(O:GR P w K mg od):fV P w K mg base CX0 1 f fd ["states","steps"] (wo P w K):=by
 refine F.F.ok jo (λvs H Q E h=>?_) (λcdv A outer s H vs Q E hr h=>?_)
 ·obtain⟨p,d,es,cs,us,ss,as,rfl,_⟩:=h;rfl
 ·obtain⟨p0,d,es,cs,us,ss,as0,rfl,hL,hN,hw,hsl,hel,k⟩:=h
  refine⟨_,(fH (fS (i:=2) jo.nd rfl (Or.inl rfl) (gJ fG))
 (fH (ir aN rfl (gq (pv 0)) (iu (n:=2) rfl (fQ (fO (i:=3) jo.nd rfl (Or.inl rfl)) (fQ (fO (i:=4) jo.nd rfl (Or.inl rfl)) gQ)))
 (fH (fS (i:=5) jo.nd rfl (Or.inl rfl) (gA (fD (pv 3) (fD (JX O rfl (pv 4) (λ_ _=>rfl)) fG))))
 (fJ (gR (gC (wO (mO hr) (pv 5) (pv 1)))
 (fH (xK (mO hr) (pv 1) (pv 5) (gA (fD (gA (fD (pv 3) (fD (pv 4) fG))) (fD xO fG))) rfl)
 (fJ (gX (kK aH bj bh iD (pv 2) (fD (pv 5) fG))))) fZ))))
 (fJ (fW (pv 2))))),?_⟩
  refine⟨by show 0<=sizeLine;decide,λp np=>?_⟩
  have s1:=fF (o:=.lst []) np
  have hp1:=fE (H:=H) (a:=p) (o:=.lst [])
  have hN1:=hN.same s1
  have S1:fL (hid d H) (upd H p (.lst [])):=ja.trans s1
  generalize upd H p _=H1 at s1 hp1 hN1 S1 ⊢
  have p0d:p0≠d:=gy hL.at_ hN.dn.at_ (λz=>nomatch z)
  have hp0:∀ {H7},fL (hid d H) H7->H7 p0=some (.lst (as0.map V.ref)):=λ{H7} s=>s _ _ (by rw[gS p0d];exact hL.at_)
  refine⟨_,rfl,p0,rfl,⟨_,SqL.of (hp0 S1)⟩,pk (K:=K) (a:=p0) (xs:=as0.map V.ref) (λj σ H7=>∃ (as' cs':List Addr) (us':List V) (x3 x4 x5:Option V),σ = [some (.ref p0),some (.ref d),some (.ref p),x3,x4,x5]/\fL (hid d H) H7/\StN P w K H7 d (chN (ss.take j) es).1 cs' us'/\StL H7 p as' (chN (ss.take j) es).2)
   ⟨[],cs,us,none,none,none,rfl,S1,hN1,⟨hp1,rfl,λi a s h=>by simp at h⟩⟩ (λj σ H7 _ ⟨_,_,_,_,_,_,_,h,_⟩=>SqL.of (hp0 h)) ?_ ?_⟩
  ·rintro j y σ H7 hj ⟨as',cs',us',x3,x4,x5,rfl,S7,hN7,hL7⟩
   have hjl:j<ss.length:=by
    have:=(af.mp hj).1
    rwa [aa,hL.len]at this
   have he:ss[j]? = some ss[j]:=ag hjl
   generalize ss[j]=st at he
   obtain⟨b,hb⟩:∃ b,as0[j]? = some b:=⟨as0[j]'(by rw[hL.len];exact hjl),ag _⟩
   have ey:y=V.ref b:=by rw[ah,hb]at hj;simpa using hj.symm
   subst ey
   obtain⟨bt,hk1,hk2⟩:=(CD hN.dn.at_ (hL.each j b st hb he)).same S7
   have hk1:H7 b=some (.tup [.ref bt,.str st.2]):=hk1
   have hws:=hw st (au he)
   refine⟨b,_,rfl,SqT.of hk1,rfl,_,_,rfl,_,_,rfl,rfl,?_⟩
   refine⟨_,rfl,_,rfl,st.2,rfl,hws,by show 2<=sizeLine;decide,λc nc=>?_⟩
   have s8:=fF (o:=.tup [.ref bt,.str (ow st.2)]) nc
   have hc8:=fE (H:=H7) (a:=c) (o:=.tup [.ref bt,.str (ow st.2)])
   have hN8:=hN7.same s8
   have hL8:=hL7.same s8
   have S8:=S7.trans s8
   have hb8:=s8 _ _ hk2
   generalize upd H7 c _=H8 at s8 hc8 hN8 hL8 S8 hb8 ⊢
   have EM:jP H8 c (kS (st.1,ow st.2)):=⟨bt,hc8,hb8⟩
   have oS:chN (ss.take (j+1)) es=jq (chN (ss.take j) es) st:=Fm he
   have sl:(chN (ss.take j) es).1.length<=2000/\(chN (ss.take j) es).2.length<=1000:=by
    have:=B0 es (ss.take j) (es,[])
    have h2:(ss.take j).length<=1000:=by rw[aM];omega
    unfold chN
    simp only[eQ]at this
    omega
   refine⟨_,rfl,_,rfl,d,_,c,_,rfl,rfl,hN8.dn,EM,_,rfl,ip (λhn=>?_) (λhn=>?_)⟩
   ·have hn:(st.1,ow st.2)∉(chN (ss.take j) es).1.map (·.1):=λz=>by
     rw[(hN8.mem (st.1,ow st.2)).mpr z]at hn;cases hn
    have nL:chN (ss.take (j+1)) es=((chN (ss.take j) es).1 ++ [((st.1,ow st.2),some (st,none))],(chN (ss.take j) es).2 ++ [(st.1,ow st.2)]):=by
     rw[oS];unfold jq;rw[aQ hn]
    refine⟨_,rfl,_,rfl,by show 2<=sizeLine;decide,λc2 nc2=>⟨by show 2<=sizeLine;decide,λa2 na2=>?_⟩⟩
    have s9:=(fF (o:=.tup [.ref bt,.str st.2]) nc2).trans (fF (o:=.tup [.ref c2,.non]) na2)
    have ha9:=fE (H:=upd H8 c2 (.tup [.ref bt,.str st.2])) (a:=a2) (o:=.tup [.ref c2,.non])
    have hc9:=(fF (o:=.tup [.ref c2,.non]) na2) _ _ (fE (H:=H8) (a:=c2) (o:=.tup [.ref bt,.str st.2]))
    have hN9:=hN8.same s9
    have hL9:=hL8.same s9
    have S9:=S8.trans s9
    have ye:=EM.same s9
    have hb9:=s9 _ _ hb8
    generalize upd (upd H8 c2 _) a2 _=H9 at s9 ha9 hc9 hN9 hL9 S9 ye hb9 ⊢
    have bk9:A9 K H9 (some (st,none)) (.ref a2):=⟨a2,c2,rfl,ha9,⟨bt,hc9,hb9⟩⟩
    refine⟨_,rfl,_,rfl,d,_,c,_,rfl,rfl,hN9.dn,ye,j4 (by rw[BJ hN9.lc hN9.lv];omega),?_⟩
    have g1:=hN9.push (e:=((st.1,ow st.2),some (st,none))) hn ye bk9
    have pd:p≠d:=gy hL9.at_ hN9.dn.at_ (λz=>nomatch z)
    have hp9:(upd H9 d (nD P w d (putN (kvN (chN (ss.take j) es).1 cs' us') (kS ((st.1,ow st.2):Sta)) c (.ref a2)))) p=some (.lst (as'.map V.ref)):=by rw[fK pd];exact hL9.at_
    refine⟨_,rfl,.inl ⟨rfl,_,SqL.of hp9⟩,_,rfl,p,_,_,rfl,rfl,hp9,j4 (by rw[aa,hL9.len];omega),?_⟩
    have tq:∀ b ys,H9 b=some (.tup ys)->(upd (upd H9 d (nD P w d (putN (kvN (chN (ss.take j) es).1 cs' us') (kS ((st.1,ow st.2):Sta)) c (.ref a2)))) p (.lst (as'.map V.ref ++ [.ref c]))) b=some (.tup ys):=λb ys q=>by
     have q2:(upd H9 d (nD P w d (putN (kvN (chN (ss.take j) es).1 cs' us') (kS ((st.1,ow st.2):Sta)) c (.ref a2)))) b=some (.tup ys):=by rw[fK (gy q hN9.dn.at_ (λz=>nomatch z))];exact q
     rw[fK (gy q2 hp9 (λz=>nomatch z))];exact q2
    refine⟨as' ++ [c],cs' ++ [c],us' ++ [.ref a2],_,_,_,rfl,?_,?_,?_⟩
    ·intro b o hb'
     have hbd:b≠d:=λz=>by rw[z,kB]at hb';cases hb'
     have hbp:b≠p:=λz=>by
      rw[z,gS (λz=>pd z),np]at hb';cases hb'
     rw[fK hbp,fK hbd];exact S9 _ _ hb'
    ·rw[nL];exact StN.list g1 hp9
    ·rw[nL];exact hL9.push tq fE (ye.kH tq)
   ·have hy:(valN (kvN (chN (ss.take j) es).1 cs' us') (kS (st.1,ow st.2))).isSome=true:=aJ λy=>hn (by rw[Bool.not_eq_true]at y;rw[y];rfl)
    have sO:chN (ss.take (j+1)) es=chN (ss.take j) es:=by
     rw[oS];unfold jq;rw[aG (λz=>z ((hN8.mem _).mp hy))]
    rw[sO]
    exact⟨as',cs',us',_,_,_,rfl,S8,hN8,hL8⟩
  ·rintro σ H7 ⟨as',cs',us',x3,x4,x5,rfl,S7,hN7,hL7⟩
   rw[aa,hL.len,aX]at hN7 hL7
   exact⟨_,rfl,k p as' cs' us' H7 S7 np hL7 hN7⟩
end
theorem Fe {l:Addr}{g:TG}{tt:TT}{te tv:TE}{cap:List (Option Nat)}{σ:L2.St}{Q:VK}{H1:Hp}(Pv:Nat->Hp->Prop)(h0:Pv 0 (upd H1 l (nD P w l [])))(hl:∀ i H,i<=xs.length->Pv i H->SqL K H p xs)
  (hs:∀ i x H,xs[i]? = some x->Pv i H->g x (iF cap σ) H λσ2 H2=>tt σ2 H2 λb H3=>
    if b=true then te σ2 H3 λy H4=>tv σ2 H4 λv H5=>∃ (kvs:KvN) (k:SK) (b:Addr),y = .ref b/\DN P w H5 l kvs/\jP H5 b k/\kvs.length<sizeLine/\Pv (i+1) (upd H5 l (nD P w l (putN kvs k b v)))
    else Pv (i+1) H3)
  (hd:∀ H,Pv xs.length H->Q (.ref l) H):Jl P w (Itl K p) g tt te tv cap σ Q l H1:=by
 refine⟨λi m H=>m=xs.length-i/\i<=xs.length/\Pv i H,⟨xs.length,by simp,aI _,h0⟩,?_⟩
 rintro i m H ⟨rfl,hi,p⟩
 have q:=hl i H hi p
 by_cases hlt:i<xs.length
 ·refine .inr ⟨⟨xs,xs[i],q,by simp[hlt]⟩,Pv (i+1),λH' p'=>⟨xs.length-(i+1),by omega,rfl,hlt,p'⟩,λx H' y=>?_⟩
  obtain⟨rfl,hy⟩:=y
  exact hs i x H' (hy xs q) p
 ·have:i=xs.length:=by omega
  subst this
  exact .inl ⟨⟨xs,q,ar _⟩,hd H p⟩
noncomputable def vI (n:Nat):V:=V.int n
noncomputable def uh (P:Program)(w:World)(K:PySem.W.Frag):Sp:=λvs H Q _=>∃ (v u:V) (l:Ln) (tr:List Int) (i:Nat),vs = [v,u]/\Da K H (dL l) v/\Da K H (dI tr) u/\gj l/\tr≠ []/\tr.length<=900/\jf l tr/\(fR l tr i).length=i/\i<=300/\
 ∀ r t cd sd kvs cs us H',(rnd l tr r).2 = []->fL H H'->H' t=some (.tup [.ref cd,.ref sd])->StN P w K H' sd (rnd l tr r).1 cs us->DN P w H' cd kvs->(∀ s,valN kvs (kS s)=(cnt l tr r s).map vI)->Q (.ref t) H'
noncomputable def at7 (σ:L2.St)(_:Hp):Nat:=match (σ[7]? :Option (Option V))with
 |some (some (V.int i))=>(2000-i).toNat
 |_=>0
noncomputable abbrev nP:Stmt:=top 37
theorem i5:gf ["line","train","start","states","state","steps","counts","many"] ["line","train"] (fM nP):=⟨rfl,rfl,rfl,by decide +kernel,rfl,by decide +kernel,by decide +kernel⟩
theorem rO:gF (fM nP) ["line","train","start","states","state","steps","counts","many"] {kind:=.function,names:=[(Str.ofString ".0",.local),(Str.ofString "state",.local)],isGenerator:=false,isCoroutine:=false,more:=[]} ["state"] 1 [none]:=⟨rfl,by decide +kernel,by decide +kernel,by decide +kernel,rfl,by decide +kernel,rfl,by decide +kernel⟩
section
variable {P:Program}{w:World}{K:PySem.W.Frag}{mg:Str->Option Value}{base:Heap}{f od:Addr}{fd:FuncData}
theorem AA (F:Fn K mg "counted" nP ["line","train"] f fd)(B:Bm mg)(mB:Fn K mg "gone_on" pS ["line","states","steps"] f1 fd1)(sI:fV P w K mg base CX0 4 f1 fd1 ["line","states","steps"] (Bh P w K))
  (je:Fn K mg "changed_over" kA ["states","steps"] f2 fd2) (mY:fV P w K mg base CX0 1 f2 fd2 ["states","steps"] (wo P w K)):fV P w K mg base CX0 5 f fd ["line","train"] (uh P w K):=by
 refine F.F.ok i5 (λvs H Q E h=>?_) (λcdv A outer s H vs Q E hr h=>?_)
 ·obtain⟨v,u,l,tr,i,rfl,_⟩:=h;rfl
 ·obtain⟨v,u,l,tr,iw,rfl,hv,hu,ok,hne,GA,T,hiw,KQ,k⟩:=h
  obtain⟨a,rfl,ha⟩:=ij.mp hu
  obtain⟨_,htr,hsh⟩:=tU ok T hne hiw
  have km:∀ t∈(fR l tr iw).map (·.1),∀ m∈mvs l t,m.2∈(fR l tr iw).map (·.1):=λt ht=>(hsh t ht).2
  have Wl:((fR l tr iw).map (·.1)).length<=300:=by rw[aa];omega
  have EI:=j6 ok T hne iw
  have trW:∀ t∈(fR l tr iw).map (·.1),jf l t/\t≠ []/\t.length<=900:=λt ht=>by
   obtain⟨e,he,rfl⟩:=ao.mp ht
   have:=EI.tr e he
   exact⟨this.1,this.2.2,by rw[this.2.1];exact GA⟩
  have RR:=RO.rnd km htr
  generalize (fR l tr iw).map (·.1)=W at km Wl trW RR htr hsh
  refine⟨_,(fH (fS (i:=2) i5.nd rfl (Or.inl rfl) (fX gD rfl B.tuple cb (fD (pv 1) fG)))
 (fH (fS (i:=3) i5.nd rfl (Or.inl rfl) (gJ (fD (gA (fD (pv 2) (fD gO fG))) (fD (gA (fD (pv 2) (fD gO fG))) fG))))
 (fH (HS (i:=5) (jE hr) i5.nd rfl rfl (gq (pv 3)) rfl rO (.name (by decide)) (λ_ _ _ _=>(fO (i:=0) rO.nd rfl (Or.inl rfl))) (λ_ _ _ _=>g8) (λ_ _ _ _=>(pv 0)) (λ_ _ _ _=>xO))
 (fH (fS (i:=6) i5.nd rfl (Or.inl rfl) F9)
 (fH (fS (i:=7) i5.nd rfl (Or.inl rfl) fI)
 (fH (nR aN (yX (pv 3) (λ_=>rfl))
 (fH (fS (i:=3) i5.nd rfl (Or.inl rfl) (fP sI (hr.mono (by decide)) rfl mB.m mB.F.kp mB.b .nil gv (fD (pv 0) (fD (pv 3) (fD (pv 5) fG)))))
 (fH (ir aN rfl (gq (pv 3)) (fO (i:=4) i5.nd rfl (Or.inl rfl))
 (fJ (xK (mO hr) (pv 6) (pv 4) (pv 7) rfl)))
 (fH (fS (i:=3) i5.nd rfl (Or.inl rfl) (fP mY (hr.mono (by decide)) rfl je.m je.F.kp je.b .nil gv (fD (pv 3) (fD (pv 5) fG))))
 (fJ (Aq (i:=7) i5.nd rfl (Or.inl rfl) fI AM))))))
 (fJ (fW (gA (fD (pv 6) (fD (pv 5) fG))))))))))),?_⟩
  refine⟨_,rfl,a,_,rfl,.inl ⟨ha,λt0 nt0=>?_⟩⟩
  have s1:=fF (o:=.tup (tr.map V.int)) nt0
  have h1:=fE (H:=H) (a:=t0) (o:=.tup (tr.map V.int))
  generalize upd H t0 _=H1 at s1 h1 ⊢
  refine⟨_,rfl,by show 2<=sizeLine;decide,λc1 nc1=>⟨_,rfl,by show 2<=sizeLine;decide,λc2 nc2=>⟨by show 2<=sizeLine;decide,λp np=>?_⟩⟩⟩
  have s2:=(fF (o:=.tup [.ref t0,.str "on"]) nc1).trans ((fF (o:=.tup [.ref t0,.str "back"]) nc2).trans (fF (o:=.lst [.ref c1,.ref c2]) np))
  have hp2:=fE (H:=upd (upd H1 c1 (.tup [.ref t0,.str "on"])) c2 (.tup [.ref t0,.str "back"])) (a:=p) (o:=.lst [.ref c1,.ref c2])
  have hc2:=(fF (o:=.lst [.ref c1,.ref c2]) np) _ _ (fE (H:=upd H1 c1 (.tup [.ref t0,.str "on"])) (a:=c2) (o:=.tup [.ref t0,.str "back"]))
  have hc1:=((fF (o:=.tup [.ref t0,.str "back"]) nc2).trans (fF (o:=.lst [.ref c1,.ref c2]) np)) _ _ (fE (H:=H1) (a:=c1) (o:=.tup [.ref t0,.str "on"]))
  generalize upd (upd (upd H1 c1 _) c2 _) p _=H2 at s2 hp2 hc2 hc1 ⊢
  have ht2:=s2 _ _ h1
  have k1:jP H2 c1 (kS (tr,onW)):=⟨t0,hc1,by rw[show(kS (tr,onW)).1=kyI tr from rfl,hX];exact ht2⟩
  have k2:jP H2 c2 (kS (tr,jg)):=⟨t0,hc2,by rw[show(kS (tr,jg)).1=kyI tr from rfl,hX];exact ht2⟩
  refine⟨_,rfl,p,rfl,⟨_,SqL.of hp2⟩,λsd nsd=>?_⟩
  have S2:=s1.trans s2
  have hn:onW≠jg:=by unfold onW jg;decide +kernel
  refine Fe (K:=K) (p:=p) (xs:=[.ref c1,.ref c2]) (λj G=>fL H2 G/\StN P w K G sd ((r0 tr).1.take j) ([c1,c2].take j) ([V.non,V.non].take j))
   ⟨fF nsd,⟨⟨fE,λq hq=>(by cases hq)⟩,rfl,rfl,λi e v he=>(by simp at he)⟩⟩ (λj G _ h=>SqL.of (h.1 _ _ hp2)) (λj x G hx h=>?_) (λG h=>?_)
  ·have Ih:H2 sd=none:=nsd
   match j,hx with
   | 0,hx=>
    cases hx
    refine⟨_,rfl,_,(kS (tr,onW)),c1,rfl,h.2.dn,k1.same h.1,by show 0<sizeLine;decide,fL.upd h.1 nsd,?_⟩
    exact StN.push (e:=((tr,onW),none)) h.2 (by simp) (k1.same h.1) rfl
   | 1,hx=>
    cases hx
    refine⟨_,rfl,_,(kS (tr,jg)),c2,rfl,h.2.dn,k2.same h.1,by show 1<sizeLine;decide,fL.upd h.1 nsd,?_⟩
    exact StN.push (e:=((tr,jg),none)) h.2 (by show(tr,jg)∉ [(tr,onW)];simp;exact λz=>hn z.symm) (k2.same h.1) rfl
  obtain⟨S3,N3⟩:=h
  have N3:StN P w K G sd (r0 tr).1 [c1,c2] [V.non,V.non]:=N3
  have L3:StL G p [c1,c2] (r0 tr).2:=⟨S3 _ _ hp2,rfl,λi a s h1 h2=>by
   match i,h1,h2 with
   | 0,h1,h2=>cases h1;cases h2;exact k1.same S3
   | 1,h1,h2=>cases h1;cases h2;exact k2.same S3⟩
  have S03:=S2.trans S3
  have Ih:H sd=none:=fL.free S2 nsd
  clear hp2 hc1 hc2 k1 k2 s2 ht2
  refine λcd ncd=>?_
  have s4:=fF (o:=nD P w cd []) ncd
  have hcd:=fE (H:=G) (a:=cd) (o:=nD P w cd [])
  have scd:sd≠cd:=λz=>by rw[<-z,N3.dn.at_]at ncd;cases ncd
  have D4:DN P w (upd G cd (nD P w cd [])) cd []:=⟨hcd,λq hq=>(by cases hq)⟩
  have Om:H cd=none:=fL.free S03 ncd
  dsimp only[qg,Dz,tC,oN]
  show ua _ _ _ _ _
  refine rX (λσ H4=>∃ (r:Nat) (p':Addr) (as cs:List Addr) (us:List V) (kvs:KvN) (x4:Option V),σ = [some v,some (.ref a),some (.ref t0),some (.ref p'),x4,some (.ref sd),some (.ref cd),some (.int r)]/\fL H H4/\StL H4 p' as (rnd l tr r).2/\StN P w K H4 sd (rnd l tr r).1 cs us/\DN P w H4 cd kvs/\(∀ s,valN kvs (kS s)=(cnt l tr r s).map vI)/\kvs.length<=r*1000/\((rnd l tr r).2≠ []->r<=(rnd l tr r).1.length)/\r<=1001)
   at7 ⟨0,p,[c1,c2],[c1,c2],[V.non,V.non],[],none,rfl,S03.trans s4,L3.same s4,N3.same s4,D4,λs=>rfl,aI _,λ_=>aI _,aI _⟩ ?_ ?_
  ·rintro σ H4 N1 R1 B1 kN1 _ kB1 ⟨r,p',as,cs,us,kvs,x4,rfl,S4,L4,N4,D4,AO,hkl,hr1,hr2⟩
   have R:=RR r
   refine⟨_,rfl,_,.inl ⟨_,SqL.of L4.at_,rfl⟩,ip (λGy=>?_) (λhe=>?_)⟩
   ·have Gy:(rnd l tr r).2≠ []:=λz=>by
     have:=L4.len
     rw[z]at this
     have:as = []:=List.length_eq_zero_iff.mp this
     rw[this]at Gy
     cases Gy
    have hr3:=hr1 Gy
    have Rl:=R.len
    have bnd:∀ i,(goS l ((rnd l tr r).1,(rnd l tr r).2) i).2.length<=1000/\(goS l ((rnd l tr r).1,(rnd l tr r).2) i).1.length<=1000:=λi=>by
     have:=(RO.go km R i).len
     exact⟨by show(goS l (rnd l tr r) i).2.length<=1000;omega,by show(goS l (rnd l tr r) i).1.length<=1000;omega⟩
    refine⟨_,rfl,_,rfl,_,rfl,v,p',sd,l,_,cs,us,_,as,rfl,Da.same S4 hv,L4,N4,ok,λs hs=>trW s.1 (R.inW s (R.sub s hs)).1,bnd,λi q as' cs' us' H5 hi S5 nq L5 N5=>?_⟩
    have hi:(goS l (rnd l tr r) i).2.length=i:=hi
    have eF:goS l ((rnd l tr r).1,(rnd l tr r).2) i=goF l (rnd l tr r):=(IV hi (by have:=(bnd i).1;have h2:(goS l ((rnd l tr r).1,(rnd l tr r).2) i).2.length=i:=hi;omega)).symm
    rw[eF]at L5 N5
    have R5:RO W (goF l (rnd l tr r)):=RO.go km R 1000
    have Rl5:=R5.len
    have D5:DN P w H5 cd kvs:=(D4.hid N4.dn.at_ scd.symm).same S5
    have S05:fL H H5:=(wz S4 Ih).trans S5
    have gp:(rnd l tr r).1.length<=(goF l (rnd l tr r)).1.length:=(yj l (rnd l tr r) 1000).length_le
    have er:rnd l tr (r+1)=chN (goF l (rnd l tr r)).2 (goF l (rnd l tr r)).1:=rfl
    have ec:∀ s,cnt l tr (r+1) s=open Classical in if s∈(goF l (rnd l tr r)).2 then some r else cnt l tr r s:=λs=>rfl
    generalize goF l (rnd l tr r)=gg at L5 N5 R5 Rl5 gp er ec
    refine⟨_,rfl,q,rfl,⟨_,SqL.of L5.at_⟩,iP (K:=K) (a:=q) (xs:=as'.map V.ref) (λj σ G=>∃ (tF:KvN) (x4:Option V),σ = [some v,some (.ref a),some (.ref t0),some (.ref q),x4,some (.ref sd),some (.ref cd),some (.int r)]/\fL H G/\StL G q as' gg.2/\StN P w K G sd gg.1 cs' us'/\DN P w G cd tF/\(∀ s,(s∈gg.2.take j->valN tF (kS s)=some (vI r))/\(s∉gg.2.take j->valN tF (kS s)=valN kvs (kS s)))/\tF.length<=kvs.length+j)
     ⟨kvs,x4,rfl,S05,L5,N5,D5,λs=>⟨λz=>(by simp at z),λ_=>rfl⟩,ar _⟩ (λj σ G _ ⟨_,_,_,_,h,_⟩=>SqL.of h.at_) ?_ ?_⟩
    ·rintro j y σ G N2 R2 B2 kN2 _ hj ⟨tF,x4',rfl,SG,LG,NG,DG,hv',hl'⟩
     have hjl:j<gg.2.length:=by
      have:=(af.mp hj).1
      rwa [aa,LG.len]at this
     have he:gg.2[j]? = some gg.2[j]:=ag hjl
     generalize gg.2[j]=st at he
     obtain⟨b,hb⟩:∃ b,as'[j]? = some b:=⟨as'[j]'(by rw[LG.len];exact hjl),ag _⟩
     have ey:y=V.ref b:=by rw[ah,hb]at hj;simpa using hj.symm
     subst ey
     have key:=LG.each j b st hb he
     refine⟨_,rfl,_,rfl,_,rfl,cd,tF,b,kS st,rfl,rfl,DG,key,j4 (by have:r*1000<=1001*1000:=Nat.mul_le_mul_right _ hr2;omega),?_⟩
     refine kN2 _ _ ⟨_,_,rfl,fL.upd SG Om,LG.other DG.at_,NG.other DG.at_ scd,DG.put key,λs'=>⟨λhm=>?_,λhm=>?_⟩,?_⟩
     ·rw[yE]
      by_cases e:s'=st
      ·rw[aQ (by rw[e])];rfl
      ·rw[aG (λz=>e (yf z))]
       rw[aV,he]at hm
       rcases aD.mp hm with z |z
       ·exact(hv' s').1 z
       ·exact absurd (by simpa using z) e
     ·rw[aV,he]at hm
      have e:s'≠st:=λz=>hm (az _ (by rw[z];simp))
      rw[yE,aG (λz=>e (yf z))]
      exact(hv' s').2 λz=>hm (bz _ z)
     ·have:=uC tF (kS st) b (.int r)
      show(putN tF (kS st) b (.int r)).length<=kvs.length+(j+1)
      omega
    rintro σ G ⟨tF,x4',rfl,SG,LG,NG,DG,hv',hl'⟩
    rw[aa,LG.len]at hl'
    rw[aa,LG.len,aX]at hv'
    refine⟨_,rfl,_,rfl,q,sd,gg.1,cs',us',gg.2,as',rfl,LG,NG,λs hs=>(R5.inW s (R5.sub s hs)).2,by omega,by omega,λq2 as2 cs2 us2 H7 S7 nq2 L7 N7=>?_⟩
    refine⟨_,rfl,_,_,rfl,rfl,?_⟩
    rw[<-er]at L7 N7
    have gr:=Fo gg.2 gg.1
    rw[<-er]at gr
    refine kN1 _ _ ⟨r+1,q2,as2,cs2,us2,tF,_,rfl,(wz SG Ih).trans S7,L7,N7,(DG.hid NG.dn.at_ scd.symm).same S7,λs=>?_,by have:=Nat.succ_mul r 1000;omega,λhn'=>?_,by omega⟩ ?_
    ·rw[ec s]
     by_cases hm:s∈gg.2
     ·rw[aQ hm,(hv' s).1 hm];rfl
     ·rw[aG hm,(hv' s).2 hm];exact AO s
    ·have:1<=(rnd l tr (r+1)).2.length:=by
      cases h:(rnd l tr (r+1)).2 with
      |nil=>exact absurd h hn'
      |cons x y=>simp
     omega
    ·show(2000-((r:Int)+1)).toNat<(2000-(r:Int)).toNat
     omega
   ·have he:(rnd l tr r).2 = []:=by
     have:=L4.len
     have h0:as = []:=by
      have:(as.map V.ref).isEmpty=true:=by simpa using he
      simpa using this
     rw[h0]at this
     exact List.length_eq_zero_iff.mp this.symm
    refine kB1 _ _ ⟨_,rfl,_,rfl,by show 2<=sizeLine;decide,λt nt=>?_⟩
    have s9:=fF (o:=.tup [.ref cd,.ref sd]) nt
    exact k r t cd sd kvs cs us _ he (S4.trans s9) fE (N4.same s9) (D4.same s9) AO
  ·rintro σ H Q Q' hq ⟨x,e1,c,h2,q⟩
   exact⟨x,e1,c,h2,hq _ _ q⟩
end
noncomputable def yP (P:Program)(w:World)(K:PySem.W.Frag):Sp:=λvs H Q _=>∃ (d g:Addr) (es:List EnS) (cs:List Addr) (us:List V) (s:Sta),vs = [.ref d,.ref g]/\StN P w K H d es cs us/\jP H g (kS s)/\s∈es.map (·.1)/\iL es/\(es.map (·.1)).Nodup/\es.length<=5000000/\
 ∀ q run H',fL H H'->H q=none->vF K H' q run->rV es s run->Q (.ref q) H'
section
variable {P:Program}{w:World}{K:PySem.W.Frag}{mg:Str->Option Value}{base:Heap}{f:Addr}{fd:FuncData}
theorem rk (F:Fn K mg "run_back_from" iT ["steps","goal"] f fd):fV P w K mg base CX0 1 f fd ["steps","goal"] (yP P w K):=by
 refine F.F.ok gB (λvs H Q E h=>?_) (λcdv A outer s H vs Q E hr h=>?_)
 ·obtain⟨d,g,es,cs,us,t,rfl,_⟩:=h;rfl
 ·obtain⟨d,g,es,cs,us,t,rfl,hs,hg,ht,bk,nd,hl,k⟩:=h
  refine⟨_,(fH (fS (i:=2) gB.nd rfl (Or.inl rfl) (gJ fG))
 (fH (fS (i:=3) gB.nd rfl (Or.inl rfl) (rh (mO hr) (pv 0) (pv 1) (λ_ _=>rfl)))
 (fH (nR aN (gC (tL (pv 3)))
 (fH (oZ (pv 3) (iu (n:=2) rfl (fQ (fO (i:=4) gB.nd rfl (Or.inl rfl)) (fQ (fO (i:=5) gB.nd rfl (Or.inl rfl)) gQ))))
 (fH (gR (gC (tL (pv 5)))
 (fJ (gX (kK aH bj bh iD (pv 2) (fD (pv 5) fG)))) fZ)
 (fJ (fS (i:=3) gB.nd rfl (Or.inl rfl) (rh (mO hr) (pv 0) (pv 4) (λ_ _=>rfl)))))))
 (fH (gX (As aH PySem.F.slot_list_reverse PySem.F.type_list_reverse uV (pv 2)))
 (fJ (fW (pv 2))))))),?_⟩
  refine⟨aI _,λp np=>?_⟩
  have s1:=fF (o:=.lst []) np
  have hp1:=fE (H:=H) (a:=p) (o:=.lst [])
  generalize upd H p _=H1 at s1 hp1 ⊢
  obtain⟨e0,he0,rfl⟩:=ao.mp ht
  obtain⟨j0,hj0,ej0⟩:=bF.mp he0
  have EU:es[j0]? = some e0:=by rw[ag hj0,ej0]
  have uat:∀ j,j<es.length->∃ v,us[j]? = some v:=λj hj=>⟨us[j]'(by rw[hs.lv];exact hj),ag _⟩
  obtain⟨v0,hv0⟩:=uat j0 hj0
  have hs1:=hs.same s1
  refine⟨_,rfl,_,rfl,d,_,g,_,v0,rfl,rfl,hs1.dn,hg.same s1,hs1.get nd EU hv0,?_⟩
  refine yA (λn σ H3=>∃ (e:EnS) (sv:V) (rr:List (Str×Int)) (vs:List V) (x4 x5:Option V),σ = [some (.ref d),some (.ref g),some (.ref p),some sv,x4,x5]/\es[n]? = some e/\us[n]? = some sv/\fL H H3/\H3 p=some (.lst vs)/\Das K (hid p H3) (rr.map dM) vs/\
    (∀ k∈rr,PyData.strOk k.1=true)/\rr.length+n<=es.length/\∀ r,rV es e.1 r->rV es e0.1 (r++rr.reverse))
   j0 ⟨e0,v0,[],[],none,none,rfl,EU,hv0,s1,hp1,gN.mpr rfl,(λk hk=>by cases hk),by simp;omega,λr hr=>by simpa using hr⟩ ?_ ?_
  ·rintro n σ H3 ⟨e,sv,rr,vs,x4,x5,rfl,hn,hsv,S3,hp3,D3,okr,ln,PT⟩
   have hs3:=hs.same S3
   have sv3:=hs3.each n e sv hn hsv
   have vl:vs.length=rr.length:=by have:=Dgs.length D3;rw[aa]at this;exact this
   refine⟨_,rfl,_,rfl,ip (λhb=>?_) (λhb=>?_)⟩
   ·obtain⟨t',o'⟩:=e
    cases o' with
    |none=>
     have z:sv = .non:=sv3
     rw[z]at hb
     exact absurd hb (by decide)
    |some tk=>
     obtain⟨t1,mk⟩:=tk
     obtain⟨i,e1,hi,he1,rfl⟩:=bk.back n t' t1 mk hn
     have hlt:=(af.mp he1).1
     obtain⟨v1,hv1⟩:=uat i hlt
     cases mk with
     |none=>
      obtain⟨a,b,rfl,ha,hb1⟩:=sv3
      refine⟨_,rfl,a,_,rfl,SqT.of ha,rfl,_,_,rfl,_,_,rfl,rfl,?_⟩
      refine⟨_,rfl,_,rfl,jO ?_⟩
      refine⟨_,rfl,_,rfl,d,_,b,_,v1,rfl,rfl,hs3.dn,hb1,hs3.get nd he1 hv1,?_⟩
      exact⟨i,hi,e1,v1,rr,vs,_,_,rfl,he1,hv1,S3,hp3,D3,okr,by omega,λr hr=>PT r (.ch (au hn) hr)⟩
     |some k1=>
      obtain⟨a,b,c,rfl,ha,hb1,hc⟩:=sv3
      refine⟨_,rfl,a,_,rfl,SqT.of ha,rfl,_,_,rfl,_,_,rfl,rfl,?_⟩
      refine⟨_,rfl,_,rfl,nC ?_⟩
      refine⟨_,rfl,.inl ⟨rfl,_,SqL.of hp3⟩,_,rfl,p,_,_,rfl,rfl,hp3,j4 (by omega),?_⟩
      have S4:=fL.upd (o:=.lst (vs ++ [V.ref c])) S3 np
      have hs4:=hs.same S4
      have hb4:jP (upd H3 p (.lst (vs ++ [V.ref c]))) b (kS e1.1):=hb1.kH λx ys q=>by rw[fK (gy q hp3 (λz=>nomatch z))];exact q
      refine⟨_,rfl,_,rfl,d,_,b,_,v1,rfl,rfl,hs4.dn,hb4,hs4.get nd he1 hv1,?_⟩
      refine⟨i,hi,e1,v1,rr ++ [k1],vs ++ [V.ref c],_,_,rfl,he1,hv1,S4,fE,?_,λk' hk'=>?_,by rw[ak,aP];omega,λr hr=>?_⟩
      ·rw[pX,av]
       exact Dgs.append D3 (Dgs.one (Hm (tQ hp3 hc)))
      ·rcases aD.mp hk' with z |z
       ·exact okr k' z
       ·have z:k'=k1:=by simpa using z
        rw[z];exact bk.ok n t' e1.1 k1 hn
      ·have:=PT (r ++ [k1]) (.mv (au hn) hr)
       rw[List.reverse_append,dt,List.reverse_nil,List.nil_append]
       rw[cN]at this
       exact this
   ·obtain⟨t',o'⟩:=e
    cases o' with
    |some tk=>
     obtain⟨t1,mk⟩:=tk
     cases mk with
     |none=>
      obtain⟨a,b,rfl,_⟩:=sv3
      exact absurd rfl hb
     |some k1=>
      obtain⟨a,b,c,rfl,_⟩:=sv3
      exact absurd rfl hb
    |none=>
     refine⟨_,rfl,.inl ⟨rfl,_,SqL.of hp3⟩,p,_,rfl,rfl,hp3,?_⟩
     refine⟨_,rfl,k p rr.reverse _ (fL.upd S3 np) np ⟨⟨_,fE,?_⟩,λk' hk'=>okr k' (by simpa using hk')⟩ ?_⟩
     ·rw[pX,fA]
      exact Dgs.rev D3
     ·have:=PT [] (.nil (au hn))
      simpa using this
  ·rintro σ H Q Q' hq ⟨x,e1,c,e2,q⟩
   exact⟨x,e1,c,e2,hq _ _ q⟩
end
noncomputable def dTu (t:List Int):PyData:=.tuple (t.map .int)
theorem E9 (a b:List Int):PyData.eqv (dTu a) (dTu b)=decide (a=b):=by
 unfold dTu
 rw[PyData.eqv,zG]
theorem Jg (ss:List (List Int))(t:List Int):((ss.map dTu).any λz=>PyData.eqv z (dTu t))=decide (t∈ss):=by
 rw[List.any_map,bN,List.any_eq_true,cw]
 constructor
 ·rintro⟨y,hy,e⟩
  have e:PyData.eqv (dTu y) (dTu t)=true:=e
  rw[E9,cw]at e
  exact e ▸ hy
 ·exact λh=>⟨t,h,by show PyData.eqv (dTu t) (dTu t)=true;rw[E9];exact bB rfl⟩
theorem Ej (ns:List Int):OkD (dTu ns):=⟨by simp only[dTu,PyData.canLay0];exact jd (λ_=>rfl) ns,by
 simp only[dTu,PyData.depth]
 have:=iY (f:=PyData.int) (k:=0) (λ_=>by simp[PyData.depth]) ns
 omega⟩
theorem Gd (ss:List (List Int)):Ji (ss.map dTu):=by
 refine⟨jd (λt=>(Ej t).1) ss,?_⟩
 have:=iY (f:=dTu) (k:=1) (λt=>by
  simp only[dTu,PyData.depth]
  have:=iY (f:=PyData.int) (k:=0) (λ_=>by simp[PyData.depth]) t
  omega) ss
 omega
theorem Hl {t:List Int}(h:H b=some (.tup (t.map V.int))):Da K H (dTu t) (.ref b):=by
 refine ie.mpr ⟨b,_,rfl,SqT.of h,?_⟩
 clear h
 induction t with
 |nil=>exact gN.mpr rfl
 |cons x r ih=>exact gm.mpr ⟨_,_,rfl,iB.mpr rfl,ih⟩
structure A5 (H:Hp)(p:Addr)(bs:List Addr)(ts:List (List Int)):Prop where
 at_:H p=some (.lst (bs.map V.ref))
 len:bs.length=ts.length
 each:∀ (i:Nat) b t,bs[i]? = some b->ts[i]? = some t->H b=some (.tup (t.map V.int))
theorem A5.same {bs:List Addr}(h:A5 H p bs ts)(s:fL H H'):A5 H' p bs ts:=⟨s _ _ h.at_,h.len,λi b t h1 h2=>s _ _ (h.each i b t h1 h2)⟩
theorem yF {K:PySem.W.Frag}{H:Hp} :∀ {bs:List Addr}{ts:List (List Int)},bs.length=ts.length->(∀ (i:Nat) b t,bs[i]? = some b->ts[i]? = some t->H b=some (.tup (t.map V.int)))->Das K H (ts.map dTu) (bs.map V.ref)
 |[],[],_,_=>gN.mpr rfl
 |[],_::_,h,_=>by simp at h
 |_::_,[],h,_=>by simp at h
 |b::bs,t::ts,h,e=>gm.mpr ⟨_,_,rfl,Hl (e 0 b t rfl rfl),yF (by simpa using h) λi b' t' h1 h2=>e (i+1) b' t' (by simpa using h1) (by simpa using h2)⟩
theorem A5.da {bs:List Addr}(h:A5 H p bs ts):Da K H (.list (ts.map dTu)) (.ref p):=iE.mpr ⟨p,_,rfl,SqL.of h.at_,yF h.len h.each⟩
noncomputable def wj (K:PySem.W.Frag):Sp:=λvs H Q _=>∃ (p:Addr) (bs:List Addr) (ts:List (List Int)),vs = [.ref p]/\A5 H p bs ts/\ts.length<=5000000/\∀ q bs' H',og H H' q bs' ts->Q (.ref q) H'
section
variable {P:Program}{w:World}{K:PySem.W.Frag}{mg:Str->Option Value}{base:Heap}{f:Addr}{fd:FuncData}
theorem xS (F:Fn K mg "lists_of" jJ ["standings"] f fd)(B:Bm mg):fV P w K mg base CX0 1 f fd ["standings"] (wj K):=by
 refine F.F.ok sP (λvs H Q E h=>?_) (λcdv A outer s H vs Q E hr h=>?_)
 ·obtain⟨p,bs,ts,rfl,_⟩:=h;rfl
 ·obtain⟨p,bs0,ts,rfl,hT,hl,k⟩:=h
  refine⟨_,(fJ (fW (lJ (gq (pv 0)) rfl lB (.name (by decide)) (λ_ _ _ _=>(fO (i:=0) lB.nd rfl (Or.inl rfl))) (λ_ _ _ _=>g8) (λ_ _ _ _=>(fX (lE (K:=K) rfl) rfl B.list de (fD (pv 0) fG)))))),?_⟩
  refine⟨_,rfl,p,rfl,⟨_,SqL.of hT.at_⟩,λq nq=>?_⟩
  refine uY ts.length (λi acc H'=>∃ bs:List Addr,acc=bs.map V.ref/\bs.length=i/\fL H H'/\H' q=some (.lst acc)/\(∀ (j:Nat) b t,bs[j]? = some b->ts[j]? = some t->H b=none/\b≠q/\H' b=some (.lst (t.map V.int)))/\bs.Nodup)
   ⟨[],rfl,rfl,fF nq,fE,λj b t h=>by simp at h,by simp⟩ (λi acc H' hi ⟨_,_,_,sm,_⟩=>⟨_,(bs0.map V.ref)[i]'(by rw[aa,hT.len];exact hi),SqL.of (sm _ _ hT.at_),ag _⟩) (λacc H' ⟨_,_,_,sm,_⟩=>⟨_,SqL.of (sm _ _ hT.at_),by rw[aa,hT.len];exact ar _⟩) ?_ ?_
  ·rintro i x acc H4 H5 hi ⟨bs,rfl,bl,sm,hq,ea,nd⟩ ⟨e5,hx⟩
   subst e5
   have hx:=hx _ (SqL.of (sm _ _ hT.at_))
   obtain⟨t,ht⟩:∃ t,ts[i]? = some t:=⟨ts[i],ag hi⟩
   obtain⟨b,hb0⟩:∃ b,bs0[i]? = some b:=⟨bs0[i]'(by rw[hT.len];exact hi),ag _⟩
   have ex:x=V.ref b:=by rw[ah,hb0]at hx;simpa using hx.symm
   subst ex
   have hb:=sm _ _ (hT.each i b t hb0 ht)
   refine iX ?_
   refine⟨_,rfl,b,_,rfl,.inr (SqT.of hb),λnb nnb=>?_⟩
   have s6:=fF (o:=.lst (t.map V.int)) nnb
   have nbq:nb≠q:=bI (fN hq nnb)
   refine⟨s6 _ _ hq,j4 (by rw[aa];omega),bs ++ [nb],by rw[av];rfl,by rw[ak,bl];rfl,fL.upd (sm.trans s6) nq,fE,λj c u hc hu=>?_,?_⟩
   ·by_cases hj:j<bs.length
    ·rw[aq hj]at hc
     obtain⟨z1,z2,z3⟩:=ea j c u hc hu
     exact⟨z1,z2,by rw[fK z2];exact s6 _ _ z3⟩
    ·have hj2:j=bs.length:=by
      have:=(af.mp hc).1
      rw[ak,aP]at this
      omega
     rw[hj2,ay (ar _),bu]at hc
     cases hc
     rw[hj2,bl,ht]at hu
     cases hu
     exact⟨fL.free sm nnb,nbq,by rw[fK nbq];exact fE⟩
   ·rw[bQ]
    refine⟨nd,by simp,λx hx y hy=>?_⟩
    have hy:y=nb:=by simpa using hy
    subst hy
    obtain⟨j,hj,e⟩:=bF.mp hx
    obtain⟨_,_,z3⟩:=ea j x (ts[j]'(by omega)) (by rw[ag hj,e]) (ag _)
    exact fN z3 nnb
  ·rintro acc H' ⟨bs,rfl,bl,sm,hq,ea,nd⟩
   exact k q bs _ ⟨sm,nq,hq,bl,ea,nd⟩
end
theorem FY {t u:TS}{D:Ends}{σ:St}(J:St->Hp->Prop)(first:∀ nx:St->Hp->Prop,(∀ σ' H',J σ' H'->nx σ' H')->t {D with nx:=nx} σ H)(rest:∀ σ' H',J σ' H'->u D σ' H'):qg t u D σ H:=
 first (u D) rest
noncomputable abbrev R3:=List Int×Nat×Nat
noncomputable def vG (H0 H:Hp)(r:R3)(v:V):Prop:=∃ ad a,v = .ref ad/\H ad=some (.tup [.ref a,vI r.2.1,vI r.2.2])/\H a=some (.lst (r.1.map V.int))/\H0 a=none
theorem vG.mono {H0:Hp}(r:R3)(v:V)(s:fL H H')(h:vG H0 H r v):vG H0 H' r v:=h.imp λ_ h=>h.imp λ_ h=>⟨h.1,s _ _ h.2.1,s _ _ h.2.2.1,h.2.2.2⟩
structure sD (H0 H:Hp)(q:Addr)(rows:List R3)(vs:List V):Prop where
 at_:H q=some (.lst vs)
 new:H0 q=none
 pw:Pw (vG H0 (hid q H)) rows vs
theorem sD.same {H0:Hp}{q:Addr}{rows:List R3}(h:sD H0 H q rows vs)(s:fL H H'):sD H0 H' q rows vs:=⟨s _ _ h.at_,h.new,h.pw.imp λr v=>vG.mono r v (pj s)⟩
noncomputable def cn (l:Ln)(tr:List Int)(r:Nat)(t:List Int)(w:Str):Nat:=(cnt l tr r (t,w)).getD 0
noncomputable def yD (l:Ln)(tr:List Int)(r:Nat)(ts:List (List Int)):List R3:=ts.map λt=>(t,cn l tr r t onW,cn l tr r t jg)
noncomputable def qG (l:Ln)(tr:List Int)(r:Nat)(gs:List Int):Str:=if cn l tr r gs onW<=cn l tr r gs jg then onW else jg
structure Jk (K:PySem.W.Frag)(c2 c5:Addr)(l:Ln)(ns gs:List Int)(H:Hp)(Q:VK)(E:XK):Prop where
 bad:¬gOk l ns gs->∀ H',fL H H'->∀ e,H' e=none->E (.ref c2) (some e) H'
 many:gOk l ns gs->(∃ i,300<(fR l ns i).length)->∀ H',fL H H'->∀ e,H' e=none->E (.ref c5) (some e) H'
 no:gOk l ns gs->∀ i,(fR l ns i).length=i->i<=300->gs∉(fR l ns i).map (·.1)->∀ r q bs H',og H H' q bs ((fR l ns i).map (·.1))->H' r=some (.tup [.str "none",.ref q])->H r=none->Q (.ref r) H'
 yes:gOk l ns gs->∀ i,(fR l ns i).length=i->i<=300->gs∈(fR l ns i).map (·.1)->∀ r t q1 run q2 us H',(rnd l ns r).2 = []->fL H H'->vF K H' q1 run->H q1=none->rV (rnd l ns r).1 (gs,qG l ns r gs) run->sD H H' q2 (yD l ns r ((fR l ns i).map (·.1))) us->q1≠q2->H' t=some (.tup [.str "run",.ref q1,.ref q2])->H t=none->Q (.ref t) H'
noncomputable def wm (K:PySem.W.Frag)(c2 c5:Addr):Sp:=λvs H Q E=>∃ (v u g:V) (l:Ln) (ns gs:List Int),vs = [v,u,g]/\Da K H (dL l) v/\Da K H (dI ns) u/\Da K H (dI gs) g/\gj l/\ns≠ []/\ns.length<=900/\jf l ns/\gs.length<=900/\Jk K c2 c5 l ns gs H Q E
noncomputable abbrev oX:Stmt:=top 38
theorem kM:gf ["line","train","goal","standings","aim","counts","steps","word","ways"] ["line","train","goal"] (fM oX):=⟨rfl,rfl,rfl,by decide +kernel,rfl,by decide +kernel,by decide +kernel⟩
theorem sY:gF (fM oX) ["line","train","goal","standings","aim","counts","steps","word","ways"] {kind:=.function,names:=[(Str.ofString ".0",.local),(Str.ofString "standing",.local),(Str.ofString "list",.globalImplicit),(Str.ofString "counts",.free)],isGenerator:=false,isCoroutine:=false,more:=[]} ["standing","counts"] 1 [none,some 5]:=⟨rfl,by decide +kernel,by decide +kernel,by decide +kernel,rfl,by decide +kernel,rfl,by decide +kernel⟩
section
variable {P:Program}{w:World}{K:PySem.W.Frag}{mg:Str->Option Value}{base:Heap}{f:Addr}{fd:FuncData}{c2 c5:Addr}
theorem CA (F:Fn K mg "fewest" oX ["line","train","goal"] f fd)(B:Bm mg)
  (ik:Fn K mg "check_goal" kz ["line","train","goal"] f1 fd1) (jQ:fV P w K mg base (CXr P w base) 3 f1 fd1 ["line","train","goal"] (xB K c2))
  (gz:Fn K mg "first_steps" ju ["line","train"] f2 fd2) (iA:fV P w K mg base (CXr P w base) 4 f2 fd2 ["line","train"] (qO K c5))
  (gP:Fn K mg "lists_of" jJ ["standings"] f3 fd3) (gG:Fn K mg "run_back_from" iT ["steps","goal"] f4 fd4) (mC:Fn K mg "counted" nP ["line","train"] f5 fd5) (sJ:fV P w K mg base CX0 5 f5 fd5 ["line","train"] (uh P w K)):
  fV P w K mg base (CXr P w base) 6 f fd ["line","train","goal"] (wm K c2 c5):=by
 have mW:fV P w K mg base CX0 1 f3 fd3 ["standings"] (wj K):=xS gP B
 have lR:fV P w K mg base CX0 1 f4 fd4 ["steps","goal"] (yP P w K):=rk gG
 refine F.F.okX kM (λvs H Q E h=>?_) (λcdv A outer s H vs Q E hr h=>?_)
 ·obtain⟨v,u,g,l,ns,gs,rfl,_⟩:=h;rfl
 ·obtain⟨v,u,g,l,ns,gs,rfl,hv,hu,hg,ok,hne,hz,T,gl,k⟩:=h
  obtain⟨b,rfl,hb⟩:=ij.mp hg
  refine⟨_,(fH (gX (fP jQ (hr.mono (by decide)) rfl ik.m ik.F.kp ik.b .nil kQ (fD (pv 0) (fD (pv 1) (fD (pv 2) fG)))))
 (fH (fS (i:=3) kM.nd rfl (Or.inl rfl) (fX (yq rfl) rfl B.list de (fD (fP iA (hr.mono (by decide)) rfl gz.m gz.F.kp gz.b .nil kQ (fD (pv 0) (fD (pv 1) fG))) fG)))
 (fH (fS (i:=4) kM.nd rfl (Or.inl rfl) (fX gD rfl B.tuple cb (fD (pv 2) fG)))
 (fH (gR (iC (nV hr.units) (pv 4) (pv 3) (by with_unfolding_all rfl))
 (fJ (fW (gA (fD gO (fD (fP mW (hr.mono (by decide)) rfl gP.m gP.F.kp gP.b .nil gv (fD (pv 3) fG)) fG))))) fZ)
 (fH (oZ (fP sJ (hr.mono (by decide)) rfl mC.m mC.F.kp mC.b .nil gv (fD (pv 0) (fD (pv 1) fG))) (iu (n:=2) rfl (fQ (fO (i:=5) kM.nd rfl (Or.inr rfl)) (fQ (fO (i:=6) kM.nd rfl (Or.inl rfl)) gQ))))
 (fH (fS (i:=7) kM.nd rfl (Or.inl rfl) (y4 (gC (JY (rh (mO hr) (pv 5) (gA (fD (pv 4) (fD gO fG))) (λ_ _=>rfl)) (rh (mO hr) (pv 5) (gA (fD (pv 4) (fD gO fG))) (λ_ _=>rfl)))) gO gO))
 (fH (wK (i:=8) kM.nd rfl rfl (gq (pv 3)) rfl sY (.name (by decide)) (λ_ _ _ _=>(fO (i:=0) sY.nd rfl (Or.inl rfl))) (λ_ _ _ _=>g8) (λ_ _ _ _=>(gA (fD (fX (lE (K:=K) rfl) rfl B.list de (fD (pv 0) fG)) (fD (yZ (P:=P) (w:=w) rfl rfl (mO hr) (pv 1) (gA (fD (pv 0) (fD gO fG))) (λ_ _=>rfl)) (fD (yZ (P:=P) (w:=w) rfl rfl (mO hr) (pv 1) (gA (fD (pv 0) (fD gO fG))) (λ_ _=>rfl)) fG))))))
 (fJ (fW (gA (fD gO (fD (fP lR (hr.mono (by decide)) rfl gG.m gG.F.kp gG.b .nil gv (fD (pv 6) (fD (gA (fD (pv 4) (fD (pv 7) fG))) fG))) (fD (pv 8) fG))))))))))))),?_⟩
  refine⟨_,rfl,_,rfl,_,rfl,_,_,_,l,ns,gs,rfl,hv,hu,hg,ok,gl,λgo H1 s1=>?_,λgo H1 s1 e he=>k.bad go H1 s1 e he⟩
  refine⟨_,rfl,_,rfl,_,_,l,ns,rfl,Da.same s1 hv,Da.same s1 hu,ok,hne,hz,T,λi d us H2 hi zr s2 nd hs2=>?_,λz H2 s2 e he=>k.many go z H2 (s1.trans s2) e he⟩
  have E2:=j6 ok T hne i
  have S2:=s1.trans s2
  have kl:(((fR l ns i).zip us).map λp=>(kyI p.1.1,p.2)).length=(fR l ns i).length:=by rw[aa,bV,hs2.len];omega
  refine⟨d,_,rfl,hs2.at_,λp bs np bl be=>?_⟩
  have TL2:A5 (upd H2 p (.lst (bs.map V.ref))) p bs ((fR l ns i).map (·.1)):=by
   refine⟨fE,by rw[bl,kl,aa],λj c t hc ht=>fF np _ _ ?_⟩
   rw[ah]at ht
   cases q:(fR l ns i)[j]? with
   |none=>rw[q]at ht;cases ht
   |some e=>
    rw[q]at ht
    cases ht
    have hj:j<us.length:=by rw[hs2.len];exact(af.mp q).1
    have hz':((fR l ns i).zip us)[j]? = some (e,us[j]):=cI.mpr ⟨q,ag hj⟩
    have:=be j c (kyI e.1,us[j]) hc (by rw[ah,hz'];rfl)
    rwa [hX]at this
  have s3:=fF (o:=.lst (bs.map V.ref)) np
  have S3:=S2.trans s3
  generalize upd H2 p _=H3 at s3 S3 TL2 ⊢
  refine⟨_,rfl,b,_,rfl,.inl ⟨S3.seq hb,λt nt=>?_⟩⟩
  have s4:=fF (o:=.tup (gs.map V.int)) nt
  have ht:=fE (H:=H3) (a:=t) (o:=.tup (gs.map V.int))
  have TL4:=TL2.same s4
  have S4:=S3.trans s4
  generalize upd H3 t _=H4 at s4 ht TL4 S4 ⊢
  refine⟨_,rfl,_,rfl,_,dTu gs,TL4.da,Hl ht,Gd _,Ej _,_,rfl,?_⟩
  rw[Jg]
  refine ip (λhn=>?_) (λhn=>?_)
  ·have hn:gs∉(fR l ns i).map (·.1):=by simpa using hn
   refine⟨_,rfl,p,bs,_,rfl,TL4,by rw[aa];omega,λq bs' H5 FR=>⟨by show 2<=sizeLine;decide,λr nr=>?_⟩⟩
   have s5:=fF (o:=.tup [.str "none",.ref q]) nr
   exact k.no go i hi zr hn r q bs' _ (og.post s5 (FR.pre S4)) fE (fL.free (S4.trans FR.same) nr)
  ·have hn:gs∈(fR l ns i).map (·.1):=by simpa using hn
   refine⟨_,rfl,_,rfl,v,u,l,ns,i,rfl,Da.same S4 hv,Da.same S4 hu,ok,hne,hz,T,hi,zr,λr t5 cd sd kvs cs us5 H5 he s5 ht5 N5 D5 AO=>?_⟩
   refine⟨t5,_,rfl,SqT.of ht5,rfl,_,_,rfl,_,_,rfl,rfl,?_⟩
   obtain⟨_,htr,hsh⟩:=tU ok T hne hi
   have km:∀ t∈(fR l ns i).map (·.1),∀ m∈mvs l t,m.2∈(fR l ns i).map (·.1):=λt ht=>(hsh t ht).2
   have full:=RC.full ok (RC.of km htr (by rw[aa];omega) r) he i
   have BN:=iL.rnd km htr r
   have RN:=RO.rnd km htr r
   have rl:=RN.len
   have both:∀ t∈(fR l ns i).map (·.1),∀ wd,isW wd->(t,wd)∈sts (rnd l ns r)/\valN kvs (kS (t,wd))=some (vI (cn l ns r t wd)):=λt ht wd hw=>by
    obtain⟨e,he',rfl⟩:=ao.mp ht
    obtain⟨h1,h2⟩:=full e he' wd hw
    refine⟨h1,?_⟩
    rw[AO]
    unfold cn
    obtain⟨n,hn'⟩:=fv.mp h2
    rw[hn'];rfl
   have S5:=S4.trans s5
   have TL5:=TL4.same s5
   have Gs:=s5 _ _ ht
   have Ep:∀ {G:Hp}{c b:Addr}{t:List Int}{wd:Str},G c=some (.tup [.ref b,.str wd])->G b=some (.tup (t.map V.int))->jP G c (kS (t,wd)):=λ{G c b t wd} h1 h2=>⟨b,h1,by rw[show(kS (t,wd)).1=kyI t from rfl,hX];exact h2⟩
   have hWd:isW (qG l ns r gs):=by
    unfold qG
    split
    ·exact .inl rfl
    ·exact .inr rfl
   dsimp only
   refine FY (λσ G=>σ = [some v,some u,some (.ref b),some (.ref p),some (.ref t),some (.ref cd),some (.ref sd),some (.str (qG l ns r gs)),none]/\fL H5 G) (λnx hJ=>?_) (λσ' G hj=>?_)
   ·refine⟨_,rfl,_,rfl,by show 2<=sizeLine;decide,λc1 nc1=>?_⟩
    have z1:=fF (o:=.tup [.ref t,.str "on"]) nc1
    have y1:=fE (H:=H5) (a:=c1) (o:=.tup [.ref t,.str "on"])
    generalize upd H5 c1 _=G1 at z1 y1 ⊢
    refine⟨cd,kvs,c1,kS (gs,onW),_,rfl,rfl,D5.same z1,Ep y1 (z1 _ _ Gs),(both gs hn onW (.inl rfl)).2,?_⟩
    refine⟨_,rfl,_,rfl,by show 2<=sizeLine;decide,λc2' nc2=>?_⟩
    have z2:=z1.trans (fF (o:=.tup [.ref t,.str "back"]) nc2)
    have y2:=fE (H:=G1) (a:=c2') (o:=.tup [.ref t,.str "back"])
    generalize upd G1 c2' _=G2 at z2 y2 ⊢
    refine⟨cd,kvs,c2',kS (gs,jg),_,rfl,rfl,D5.same z2,Ep y2 (z2 _ _ Gs),(both gs hn jg (.inr rfl)).2,?_⟩
    refine⟨_,_,rfl,rfl,_,rfl,ip (λh=>?_) (λh=>?_)⟩
    ·have h:(cn l ns r gs onW:Int)<=(cn l ns r gs jg:Int):=by simpa using h
     refine hJ _ _ ⟨?_,z2⟩
     unfold qG
     rw[aQ (by omega)]
     rfl
    ·have h:¬(cn l ns r gs onW:Int)<=(cn l ns r gs jg:Int):=by simpa using h
     refine hJ _ _ ⟨?_,z2⟩
     unfold qG
     rw[aG (by omega)]
     rfl
   ·obtain⟨rfl,z5⟩:=hj
    have TL6:=TL5.same z5
    have D6:=D5.same z5
    have N6:=N5.same z5
    have ht6:=z5 _ _ Gs
    have S6:=S5.trans z5
    clear AO D5 N5 TL5 TL4 Gs
    refine⟨_,rfl,p,rfl,⟨_,SqL.of TL6.at_⟩,λq nq=>?_⟩
    refine Hc ((fR l ns i).map (·.1)).length (yD l ns r ((fR l ns i).map (·.1))) (vG H) (λr v=>vG.mono r v) nq (by simp[yD]) (j4 (by rw[aa];omega)) (λj G' sm hj=>⟨_,(bs.map V.ref)[j]'(by rw[aa,TL6.len];exact hj),SqL.of (sm _ _ TL6.at_),ag _⟩) (λG' sm=>⟨_,SqL.of (sm _ _ TL6.at_),by rw[aa,TL6.len];exact ar _⟩) ?_ ?_
    ·rintro j x rw3 G6 G7 sm ⟨acc,hq⟩ ⟨rfl,hx⟩ hr3 P1 P0 kk
     have hx:=hx _ (SqL.of (sm _ _ TL6.at_))
     unfold yD at hr3
     rw[ah]at hr3
     cases hts:((fR l ns i).map (·.1))[j]? with
     |none=>rw[hts]at hr3;cases hr3
     |some tt=>
      rw[hts]at hr3
      cases hr3
      have htm:=au hts
      have hjb:j<bs.length:=by rw[TL6.len];exact(af.mp hts).1
      have hb0:bs[j]? = some bs[j]:=ag hjb
      generalize bs[j]=bb at hb0
      have ex:x=V.ref bb:=by rw[ah,hb0]at hx;simpa using hx.symm
      subst ex
      have hbb:=sm _ _ (TL6.each j bb tt hb0 hts)
      refine iX ?_
      refine⟨_,rfl,bb,_,rfl,.inr (SqT.of hbb),λnb nnb=>?_⟩
      have w1:=fF (o:=.lst (tt.map V.int)) nnb
      have hnb:=fE (H:=G7) (a:=nb) (o:=.lst (tt.map V.int))
      generalize upd G7 nb _=G8 at w1 hnb ⊢
      refine⟨_,rfl,_,rfl,by show 2<=sizeLine;decide,λc1 nc1=>?_⟩
      have w2:=w1.trans (fF (o:=.tup [.ref bb,.str "on"]) nc1)
      have y1:=fE (H:=G8) (a:=c1) (o:=.tup [.ref bb,.str "on"])
      have Kx:=fF (o:=.tup [.ref bb,.str "on"]) nc1 _ _ hnb
      generalize upd G8 c1 _=G9 at w2 y1 Kx ⊢
      refine⟨cd,kvs,c1,kS (tt,onW),_,rfl,rfl,D6.same (sm.trans w2),Ep y1 (w2 _ _ hbb),(both tt htm onW (.inl rfl)).2,?_⟩
      refine⟨_,rfl,_,rfl,by show 2<=sizeLine;decide,λc2' nc2=>?_⟩
      have w3:=w2.trans (fF (o:=.tup [.ref bb,.str "back"]) nc2)
      have y2:=fE (H:=G9) (a:=c2') (o:=.tup [.ref bb,.str "back"])
      have Kw:=fF (o:=.tup [.ref bb,.str "back"]) nc2 _ _ Kx
      generalize upd G9 c2' _=G10 at w3 y2 Kw ⊢
      refine⟨cd,kvs,c2',kS (tt,jg),_,rfl,rfl,D6.same (sm.trans w3),Ep y2 (w3 _ _ hbb),(both tt htm jg (.inr rfl)).2,?_⟩
      refine⟨by show 3<=sizeLine;decide,λnt nnt=>kk _ _ (w3.trans (fF nnt)) ?_⟩
      have nbq:nb≠q:=(fN hq nnb).symm
      have ntq:nt≠q:=(fN (w3 _ _ hq) nnt).symm
      exact⟨nt,nb,rfl,by rw[gS ntq,fE],by rw[gS nbq];exact fF nnt _ _ Kw,fL.free (S6.trans sm) nnb⟩
    ·intro vs8 G8 sm h8 D8
     refine⟨_,rfl,_,rfl,_,rfl,by show 2<=sizeLine;decide,λc3 nc3=>?_⟩
     have w1:=fF (o:=.tup [.ref t,.str (qG l ns r gs)]) nc3
     have y3:=fE (H:=G8) (a:=c3) (o:=.tup [.ref t,.str (qG l ns r gs)])
     generalize upd G8 c3 _=G9 at w1 y3 ⊢
     have w2:=sm.trans w1
     refine⟨sd,c3,_,cs,us5,(gs,qG l ns r gs),rfl,N6.same w2,Ep y3 (w2 _ _ ht6),(both gs hn _ hWd).1,BN,RN.nd,by rw[aa]at rl;omega,λq1 run G10 w3 nq1 ra pn=>⟨_,rfl,by show 3<=sizeLine;decide,λt9 nt9=>?_⟩⟩
     have w4:=fF (o:=.tup [.str "run",.ref q1,.ref q]) nt9
     have S8:=S6.trans w2
     have R8:sD H G9 q (yD l ns r ((fR l ns i).map (·.1))) vs8:=(sD.mk h8 (fL.free S6 nq) D8).same w1
     have hqq:q1≠q:=bI (fN R8.at_ nq1)
     exact k.yes go i hi zr hn r t9 q1 run q vs8 _ he ((S8.trans w3).trans w4) (ra.same w4) (fL.free S8 nq1) pn ((R8.same w3).same w4) hqq fE (fL.free (S8.trans w3) nt9)
end
theorem B4 {n:Nat}(h:n<=4096000):n<sizeLine:=bL h (by rw[cy];decide)
noncomputable def dec (p:Prop):Bool:=@decide p (Classical.propDecidable p)
theorem sW {p:Prop}(h:p):dec p=true:=by unfold dec;exact @decide_eq_true p (Classical.propDecidable p) h
theorem lW {p:Prop}(h:¬p):dec p=false:=by unfold dec;exact @decide_eq_false p (Classical.propDecidable p) h
theorem mj {p:Prop} :dec p=true↔p:=by unfold dec;exact @decide_eq_true_iff p (Classical.propDecidable p)
noncomputable def Bg (K:PySem.W.Frag):Sp:=λvs H Q _=>∃ (v u x:V) (l:Ln) (tr s:List Int),vs = [v,u,x]/\Da K H (dL l) v/\Da K H (dI tr) u/\Da K H (dI s) x/\gj l/\s.length<=900/\∀ H',fL H H'->Q (.bl (dec (xx l tr s))) H'
noncomputable def um (K:PySem.W.Frag):Sp:=λvs H Q _=>∃ (v u x:V) (l:Ln) (tr:List Int) (ss:List (List Int)),vs = [v,u,x]/\Da K H (dL l) v/\Da K H (dI tr) u/\Da K H (dLI ss) x/\gj l/\ss.length<=4096000/\(∀ s∈ss,s.length<=900)/\TH.Cls ss/\∀ H',fL H H'->Q (.bl (dec (pE l tr ss))) H'
noncomputable abbrev lq:Stmt:=top 28
theorem uy:gf ["line","train","listed"] ["line","train","listed"] (fM lq):=⟨rfl,rfl,rfl,by decide +kernel,rfl,by decide +kernel,by decide +kernel⟩
noncomputable abbrev iH:Stmt:=top 29
theorem se:gf ["line","train","standings"] ["line","train","standings"] (fM iH):=⟨rfl,rfl,rfl,by decide +kernel,rfl,by decide +kernel,by decide +kernel⟩
theorem mR:gF (fM iH) ["line","train","standings"] {kind:=.function,names:=[(Str.ofString ".0",.local),(Str.ofString "standing",.local),(Str.ofString "tuple",.globalImplicit)],isGenerator:=false,isCoroutine:=false,more:=[]} ["standing"] 1 [none]:=⟨rfl,by decide +kernel,by decide +kernel,by decide +kernel,rfl,by decide +kernel,rfl,by decide +kernel⟩
theorem mQ:gF (fM iH) ["line","train","standings"] {kind:=.function,names:=[(Str.ofString ".0",.local),(Str.ofString "standing",.local),(Str.ofString "is_standing",.globalImplicit),(Str.ofString "line",.free),(Str.ofString "train",.free)],isGenerator:=false,isCoroutine:=false,more:=[]} ["standing","line","train"] 1 [none,some 0,some 1]:=⟨rfl,by decide +kernel,by decide +kernel,by decide +kernel,rfl,by decide +kernel,rfl,by decide +kernel⟩
section
variable {P:Program}{w:World}{K:PySem.W.Frag}{mg:Str->Option Value}{base:Heap}{f:Addr}{fd:FuncData}{c2:Addr}
theorem uM (F:Fn K mg "is_standing" lq ["line","train","listed"] f fd)(XS:Xr K mg c2)(B:Bm mg)(hV:Fn K mg "check_train" jv ["line","train"] f1 fd1)(jy:fV P w K mg base (CXr P w base) 2 f1 fd1 ["line","train"] (uk K c2)):
  fV P w K mg base CX0 3 f fd ["line","train","listed"] (Bg K):=by
 refine F.F.ok uy (λvs H Q E h=>?_) (λcdv A outer s H vs Q E hr h=>?_)
 ·obtain⟨v,u,x,l,tr,s,rfl,_⟩:=h;rfl
 ·obtain⟨v,u,x,l,tr,s,rfl,hv,hu,hx,ok,hz,k⟩:=h
  obtain⟨a,rfl,hA⟩:=ij.mp hu
  obtain⟨b,rfl,hB⟩:=ij.mp hx
  refine⟨_,(fH (gR (gC (Au (gd gw rfl B.len cu (fD (pv 2) fG)) (gd gw rfl B.len cu (fD (pv 1) fG))))
 (fJ (fW i9)) fZ)
 (fH (F7 rfl rfl rfl rfl XS.jm.m (λpn W E hW=>(fJ (gX (o5 jy (hr.mono (by decide)) rfl hV.m hV.F.kp hV.b .nil hW (fD (pv 0) (fD (pv 2) fG)))))) (λe=>(fJ (fW i9))))
 (fJ (fW i9)))),?_⟩
  refine⟨_,rfl,b,_,rfl,.inl hB,_,rfl,a,_,rfl,.inl hA,_,_,rfl,rfl,_,rfl,ip (λh=>?_) (λh=>?_)⟩
  ·have h:¬(s.length:Int)=tr.length:=by simpa using h
   have h:¬s.length=tr.length:=by omega
   have:=k H (fL.refl _)
   rw[lW λz:xx l tr s=>h z.1]at this
   exact this
  have h:(s.length:Int)=tr.length:=by simpa using h
  have h:s.length=tr.length:=by omega
  refine⟨_,rfl,_,rfl,_,_,l,s,rfl,hv,hx,ok,hz,λhT H1 s1=>?_,λhT H1 s1 e ne=>?_⟩
  ·have:=k H1 s1
   rw[sW (show xx l tr s from⟨h,hT⟩)]at this
   exact this
  ·refine⟨e,c2,rfl,rfl,XS.cat,?_⟩
   have:=k _ (s1.trans (fF (o:=vq e c2) ne))
   rw[lW λz:xx l tr s=>hT z.2]at this
   exact this
theorem sj (F:Fn K mg "are_standings" iH ["line","train","standings"] f fd)(B:Bm mg)(jA:Fn K mg "is_standing" lq ["line","train","listed"] f1 fd1)(nI:fV P w K mg base CX0 3 f1 fd1 ["line","train","listed"] (Bg K)):
  fV P w K mg base CX0 4 f fd ["line","train","standings"] (um K):=by
 refine F.F.ok se (λvs H Q E h=>?_) (λcdv A outer s H vs Q E hr h=>?_)
 ·obtain⟨v,u,x,l,tr,ss,rfl,_⟩:=h;rfl
 ·obtain⟨v,u,x,l,tr,ss,rfl,hv,hu,hx,ok,hz,hzs,hC,k⟩:=h
  obtain⟨a,us,rfl,hA,D⟩:=iE.mp hx
  have ul:us.length=ss.length:=by have:=Dgs.length D;rw[aa]at this;exact this
  refine⟨_,(fH (gR (gC (wQ (gd Di rfl B.len cu (fD (HX (jE hr) (gq (pv 2)) rfl mR (.name (by decide)) (λ_ _ _ _=>(fO (i:=0) mR.nd rfl (Or.inl rfl))) (λ_ _ _ _=>g8) (λ_ _ _ _=>(fX (kD (K:=K) rfl) rfl B.tuple cb (fD (pv 0) fG)))) fG)) (gd gw rfl B.len cu (fD (pv 2) fG))))
 (fJ (fW i9)) fZ)
 (fJ (fW (gd (vA rfl) rfl B.all boot_all (fD (lJ (gq (pv 2)) rfl mQ (.name (by decide)) (λ_ _ _ _=>(fO (i:=0) mQ.nd rfl (Or.inl rfl))) (λ_ _ _ _=>g8) (λ_ _ _ _=>(fP nI (hr.mono (by decide)) rfl jA.m jA.F.kp jA.b .nil gv (fD (pv 1) (fD (pv 2) (fD (pv 0) fG)))))) fG))))),?_⟩
  refine⟨_,rfl,a,rfl,⟨_,hA⟩,λp np=>?_⟩
  refine⟨λi m G=>m=ss.length-i/\i<=ss.length/\fL H G/\∃ xs:List (List Key×Addr),G p=some (qi P w p xs)/\pF K G xs/\xs.length<=i/\(keysOf xs).Nodup/\∀ kk,kk∈keysOf xs↔kk∈(ss.take i).map kyI,⟨ss.length,by simp,aI _,fF np,[],fE,λx hx=>(nomatch hx),ar _,cz,λkk=>by simp[keysOf]⟩,?_⟩
  ·rintro i m G ⟨rfl,hi,sG,xs,hp,hT,xl,xnd,xm⟩
   by_cases hlt:i<ss.length
   ·refine .inr ⟨(gK hA).go i G sG (by omega),λG'=>(i+1)<=ss.length/\fL H G'/\∃ xs:List (List Key×Addr),G' p=some (qi P w p xs)/\pF K G' xs/\xs.length<=i+1/\(keysOf xs).Nodup/\∀ kk,kk∈keysOf xs↔kk∈(ss.take (i+1)).map kyI,λG' ⟨n1,n2,n3⟩=>⟨ss.length-(i+1),by omega,rfl,n1,n2,n3⟩,λy G' yy=>?_⟩
    obtain⟨rfl,hy⟩:=(gK hA).yld i G y G' sG (by omega) yy
    obtain⟨st,ad,hst,rfl,hL⟩:=BE (Das.same sG D) hy
    have htk:∀ kk,kk∈(ss.take (i+1)).map kyI↔kk∈(ss.take i).map kyI\/kk=kyI st:=λkk=>by
     rw[aV,hst,av,aD]
     simp
    unfold oN Ag
    dsimp only
    rw[aQ rfl]
    refine⟨_,rfl,ad,_,rfl,.inl ⟨hL,λb nb=>?_⟩⟩
    have sb:=fF (o:=.tup (st.map V.int)) nb
    refine⟨xs,kyI st,b,rfl,sb _ _ hp,hT.same sb,by rw[hX];exact SqT.of fE,⟨by omega,TH.Jb xnd (λkk hk=>by obtain⟨s,hs,e⟩:=ao.mp ((xm kk).mp hk);exact ao.mpr ⟨s,dB hs,e⟩) hC⟩,λhk=>?_,λhk xs' pm=>?_⟩
    ·refine⟨hlt,sG.trans sb,xs,sb _ _ hp,hT.same sb,by omega,xnd,λkk=>?_⟩
     rw[htk,xm]
     exact⟨λz=>.inl z,λz=>z.elim id λe=>by rw[e];exact(xm _).mp hk⟩
    ·have hbp:(upd G' b (.tup (st.map V.int))) p=some (qi P w p xs):=sb _ _ hp
     refine⟨hlt,fL.upd (sG.trans sb) np,xs',fE,λz hz=>?_,by rw[pm.length_eq,ak];show xs.length+1<=_;omega,?_,λkk=>?_⟩
     ·have hz':SqT K (upd G' b (.tup (st.map V.int))) z.2 (z.1.map kV):=by
       rcases aD.mp (pm.mem_iff.mp hz)with q |q
       ·exact gx sb (hT z q)
       ·rw[bH.mp q,hX];exact SqT.of fE
      rcases hz' with(q |⟨o,q⟩)|q
      ·exact .inl (.inl (by rw[fK λe=>by rw[e,hbp]at q;cases q];exact q))
      ·exact .inl (.inr ⟨o,by rw[fK λe=>by rw[e,hbp]at q;cases q];exact q⟩)
      ·exact .inr q
     ·have:(keysOf (xs ++ [(kyI st,b)])).Nodup:=by
       unfold keysOf
       rw[av,bQ]
       refine⟨xnd,by simp,λa ha b' hb'=>?_⟩
       have:b'=kyI st:=by simpa using hb'
       rw[this]
       exact λe=>hk (by rw[<-e];exact ha)
      exact(pm.map _).nodup_iff.mpr this
     ·have:kk∈keysOf xs'↔kk∈keysOf (xs ++ [(kyI st,b)]):=(pm.map _).mem_iff
      rw[this,htk,<-xm]
      unfold keysOf
      rw[av,aD]
      simp
   ·have e:i=ss.length:=by omega
    subst e
    refine .inl ⟨by have:=(gK hA).stop G sG;rw[ul]at this;exact this,?_⟩
    rw[aX]at xm
    have hlt:=Iq xnd xm
    have kl:(keysOf xs).length=xs.length:=by unfold keysOf;rw[aa]
    rw[kl]at hlt
    refine⟨p,xs,rfl,hp,_,rfl,a,_,rfl,.inl (sG.seq hA),_,_,rfl,rfl,_,rfl,ip (λh=>?_) (λh=>?_)⟩
    ·have h:(xs.length:Int)<us.length:=by simpa using h
     have:=k G sG
     rw[lW λz:pE l tr ss=>hlt.mp (by omega) z.1]at this
     exact this
    have h:¬(xs.length:Int)<us.length:=by simpa using h
    have hnd:ss.Nodup:=aJ λz=>by have:=hlt.mpr z;omega
    refine⟨_,rfl,a,rfl,⟨_,sG.seq hA⟩,λq nq=>tP ss.length ss (λ_=>true) (λst=>V.bl (dec (xx l tr st))) nq rfl (B4 hz) (λi G2 s2 hi=>(gK hA).go i G2 (sG.trans s2) (by omega)) (λG2 s2=>by have:=(gK hA).stop G2 (sG.trans s2);rw[ul]at this;exact this) ?_ ?_⟩
    ·intro i y d G2 G2' s2 yy hd P1 P0 p1 p0
     obtain⟨rfl,hy⟩:=(gK hA).yld i G2 y G2' (sG.trans s2) (by have:=(af.mp hd).1;omega) yy
     obtain⟨st,ad,hst,rfl,hL⟩:=BE (Das.same (sG.trans s2) D) hy
     rw[hd]at hst
     cases hst
     refine iX ?_
     exact⟨_,rfl,_,rfl,_,rfl,_,_,_,l,tr,d,rfl,Da.same (sG.trans s2) hv,Da.same (sG.trans s2) hu,ij.mpr ⟨ad,rfl,hL⟩,ok,hzs d (au hd),λG3 s3=>p1 G3 rfl s3⟩
    intro G2 s2 hq
    rw[kU]at hq
    refine⟨q,ss.map λst=>dec (xx l tr st),rfl,SqL.of (by rw[hq,bo];rfl),?_⟩
    have e:(ss.map λst=>dec (xx l tr st)).all id=dec (pE l tr ss):=by
     rw[bN,cx,mj]
     constructor
     ·exact λz=>⟨hnd,λst hs=>mj.mp (z _ (ao.mpr ⟨st,hs,rfl⟩))⟩
     ·rintro z b hb
      obtain⟨st,hs,rfl⟩:=ao.mp hb
      exact mj.mpr (z.2 st hs)
    rw[e]
    exact k G2 (sG.trans s2)
end
structure WD (H:Hp)(d:Addr)(kvs:List (List Key×V))(lk:List Int->Option (Int×Int)):Prop where
 rd:Rd H d (.dT kvs)
 no:∀ s,lk s=none->jM kvs (kyI s)=none
 yes:∀ s a b,lk s=some (a,b)->∃ c,jM kvs (kyI s)=some (.ref c)/\H c=some (.tup [.int a,.int b])
theorem Bt {a:Addr}{u:HO}(h:Rd H a u)(s:fL H H'):Rd H' a u:=h.elim (λz=>.inl (s _ _ z)) λ⟨o,z⟩=>.inr ⟨o,s _ _ z⟩
theorem WD.same {kvs:List (List Key×V)}{lk:List Int->Option (Int×Int)}(h:WD H d kvs lk)(s:fL H H'):WD H' d kvs lk:=⟨Bt h.rd s,h.no,λt a b e=>(h.yes t a b e).imp λc z=>⟨z.1,s _ _ z.2⟩⟩
theorem WD.get {kvs:List (List Key×V)}{lk:List Int->Option (Int×Int)}(h:WD H d kvs lk){s:List Int}(hb:H b=some (.tup (s.map V.int))):oK H d (.ref b) (jM kvs (kyI s)):=.inr ⟨_,kyI s,b,h.rd,rfl,by rw[hX];exact hb,rfl⟩
noncomputable def qH (l:Ln)(lk:List Int->Option (Int×Int))(t:List Int)(on bk:Int):Prop:=(on<=bk+1/\bk<=on+1)/\∀ m∈mvs l t,∃ a b,lk m.2=some (a,b)/\(m.1.1=Str.ofString "on" ->a<=on)/\(m.1.1=Str.ofString "back" ->b<=bk)
noncomputable def wq (K:PySem.W.Frag):Sp:=λvs H Q _=>∃ (v:V) (d b:Addr) (l:Ln) (kvs:List (List Key×V)) (lk:List Int->Option (Int×Int)) (t:List Int) (on bk:Int),vs = [v,.ref d,.ref b]/\Da K H (dL l) v/\WD H d kvs lk/\H b=some (.tup (t.map V.int))/\gj l/\t≠ []/\t.length<=900/\lk t=some (on,bk)/\∀ H',fL H H'->Q (.bl (dec (qH l lk t on bk))) H'
noncomputable abbrev lZ:Stmt:=top 39
theorem jt:gf ["line","ways","standing","on","back","move","behind","there"] ["line","ways","standing"] (fM lZ):=⟨rfl,rfl,rfl,by decide +kernel,rfl,by decide +kernel,by decide +kernel⟩
section
variable {P:Program}{w:World}{K:PySem.W.Frag}{mg:Str->Option Value}{base:Heap}{f:Addr}{fd:FuncData}
theorem vU (F:Fn K mg "allow_ways" lZ ["line","ways","standing"] f fd)(B:Bm mg)(gE:Fn K mg "moves_of" j9 ["line","train"] f1 fd1)(iK:fV P w K mg base CX0 3 f1 fd1 ["line","train"] (mF K)):
  fV P w K mg base CX0 4 f fd ["line","ways","standing"] (wq K):=by
 refine F.F.ok jt (λvs H Q E h=>?_) (λcdv A outer s H vs Q E hr h=>?_)
 ·obtain⟨v,d,b,l,kvs,lk,t,on,bk,rfl,_⟩:=h;rfl
 ·obtain⟨v,d,b,l,kvs,lk,t,on,bk,rfl,hv,hd,hb,ok,rne,rl,hr0,k⟩:=h
  refine⟨_,(fH (oZ (ly (jE hr) (pv 1) (pv 2) (λ_ _=>rfl)) (iu (n:=2) rfl (fQ (fO (i:=3) jt.nd rfl (Or.inl rfl)) (fQ (fO (i:=4) jt.nd rfl (Or.inl rfl)) gQ))))
 (fH (gR (gC (uF (gd Fq rfl B.abs boot_abs (fD (fT uI (pv 3) (pv 4)) fG)) fI))
 (fJ (fW i9)) fZ)
 (fH (ir aN rfl (gq (fP iK (hr.mono (by decide)) rfl gE.m gE.F.kp gE.b .nil gv (fD (pv 0) (fD (fX iM rfl B.list de (fD (pv 2) fG)) fG)))) (iu (n:=2) rfl (fQ (fO (i:=5) jt.nd rfl (Or.inl rfl)) (fQ (fO (i:=6) jt.nd rfl (Or.inl rfl)) gQ)))
 (fH (fS (i:=7) jt.nd rfl (Or.inl rfl) (fX gD rfl B.tuple cb (fD (pv 6) fG)))
 (fH (gR (gC (nU (jE hr) (pv 7) (pv 1)))
 (fJ (fW i9)) fZ)
 (fH (gR (PW.pt (xJ (iC Eg (gY i7 (pv 5) fI (λ_ _=>rfl)) gO (jW _)) (tK (gC (uF (gY i7 (ly (jE hr) (pv 1) (pv 7) (λ_ _=>rfl)) fI (λ_ _=>rfl)) (pv 3))))))
 (fJ (fW i9)) fZ)
 (fJ (gR (PW.pt (xJ (iC Eg (gY i7 (pv 5) fI (λ_ _=>rfl)) gO (jW _)) (tK (gC (uF (gY i7 (ly (jE hr) (pv 1) (pv 7) (λ_ _=>rfl)) fI (λ_ _=>rfl)) (pv 4))))))
 (fJ (fW i9)) fZ))))))
 (fJ (fW i9))))),?_⟩
  obtain⟨c0,hc0,hc1⟩:=hd.yes t on bk hr0
  have g0:=hd.get hb
  rw[hc0]at g0
  refine⟨_,rfl,_,rfl,d,_,rfl,g0,c0,_,rfl,SqT.of hc1,rfl,_,_,rfl,_,_,rfl,rfl,?_⟩
  refine⟨_,rfl,_,rfl,_,_,rfl,rfl,_,rfl,_,_,rfl,rfl,_,rfl,ip (λh=>?_) (λh=>?_)⟩
  ·have h:1<(if on-bk<0 then -(on-bk)else on-bk):=by simpa using h
   have:=k H (fL.refl _)
   rw[lW λz:qH l lk t on bk=>by have:=z.1;split at h<;>omega]at this
   exact this
  have h:¬1<(if on-bk<0 then -(on-bk)else on-bk):=by simpa using h
  have near:on<=bk+1/\bk<=on+1:=by split at h<;>omega
  refine⟨_,rfl,_,rfl,b,_,rfl,.inr (SqT.of hb),λq nq=>?_⟩
  have s1:=fF (o:=.lst (t.map V.int)) nq
  refine⟨_,_,l,t,rfl,Da.same s1 hv,jc fE,ok,rne,rl,λpm vm H2 s2 npm hpm Dm=>?_⟩
  obtain⟨bs,hb1,hb2,hb3⟩:=ED Dm
  subst hb2
  have S2:=s1.trans s2
  generalize upd H q _=H1 at s1 s2 npm Dm hb3 nq
  have ph:∀ m,m∈mvs l t↔∃ x∈bs,x.1=m:=λm=>by
   rw[<-hb1,ao]
  refine⟨pm,rfl,⟨_,SqL.of hpm⟩,iP (K:=K) (a:=pm) (xs:=bs.map λx=>V.ref x.2.1) (λi σ H3=>∃ (x5 x6 x7:Option V),σ = [some v,some (.ref d),some (.ref b),some (.int on),some (.int bk),x5,x6,x7]/\fL H2 H3/\∀ x∈bs.take i,∃ a b,lk x.1.2=some (a,b)/\(x.1.1.1=Str.ofString "on" ->a<=on)/\(x.1.1.1=Str.ofString "back" ->b<=bk))
   ⟨none,none,none,rfl,fL.refl _,λx hx=>by simp at hx⟩ (λi σ H3 _ ⟨_,_,_,_,s,_⟩=>SqL.of (s _ _ hpm)) ?_ ?_⟩
  ·rintro i y σ H3 N R B kN kR hi ⟨x5,x6,x7,rfl,s3,al⟩
   rw[ah]at hi
   obtain⟨x,hx⟩:∃ x,bs[i]? = some x:=by
    cases q:bs[i]? with
    |none=>rw[q]at hi;cases hi
    |some x=>exact⟨x,rfl⟩
   rw[hx]at hi
   cases hi
   obtain⟨⟨p1,ht,hdm⟩,hbb,_,_⟩:=hb3 x (au hx)
   obtain⟨p1x,e1,htm⟩:=I0 hdm
   cases e1
   have xin:x.1∈mvs l t:=(ph _).mpr ⟨x,au hx,rfl⟩
   refine⟨x.2.1,_,rfl,gx s3 ht,rfl,_,_,rfl,_,_,rfl,rfl,?_⟩
   refine⟨_,rfl,x.2.2,_,rfl,.inl ⟨SqL.of (s3 _ _ hbb),λtp ntp=>?_⟩⟩
   have s4:=s3.trans (fF (o:=.tup (x.1.2.map V.int)) ntp)
   have htp:=fE (H:=H3) (a:=tp) (o:=.tup (x.1.2.map V.int))
   generalize upd H3 tp _=H4 at s4 htp ⊢
   have hd4:=hd.same (S2.trans s4)
   have IF:=gx s4 htm
   have g1:=hd4.get htp
   refine⟨_,rfl,_,rfl,d,_,rfl,g1,_,rfl,?_⟩
   cases q:lk x.1.2 with
   |none=>
    rw[hd4.no _ q]
    refine nC ?_
    have:=k H4 (S2.trans s4)
    rw[lW λz:qH l lk t on bk=>by
     obtain⟨a,b,h1,_⟩:=z.2 x.1 xin
     rw[q]at h1;cases h1]at this
    exact kR _ _ this
   |some ab=>
    obtain⟨a,b'⟩:=ab
    obtain⟨c,hv1,hc⟩:=hd4.yes _ a b' q
    rw[hv1]at g1 ⊢
    have bad:¬((x.1.1.1=Str.ofString "on" ->a<=on)/\(x.1.1.1=Str.ofString "back" ->b'<=bk))->R (.bl false) H4:=λhz=>kR _ _ (by
     have:=k H4 (S2.trans s4)
     rw[lW λz:qH l lk t on bk=>by
      obtain⟨a2,b2,h1,h2⟩:=z.2 x.1 xin
      rw[q]at h1;cases h1
      exact hz h2]at this
     exact this)
    have hn:¬Str.ofString "back" = Str.ofString "on" :=by decide +kernel
    have good:((x.1.1.1=Str.ofString "on" ->a<=on)/\(x.1.1.1=Str.ofString "back" ->b'<=bk))->N [some v,some (V.ref d),some (.ref b),some (.int on),some (.int bk),some (.ref p1),some (.ref x.2.2),some (.ref tp)] H4:=λhz=>kN _ _ ⟨_,_,_,rfl,s4,λz hz'=>by
     rw[aV,hx]at hz'
     rcases aD.mp hz' with w |w
     ·exact al z w
     ·have:z=x:=by simpa using w
      rw[this];exact⟨a,b',q,hz⟩⟩
    refine jO ?_
    refine⟨_,rfl,p1,_,_,_,rfl,rfl,IF,rfl,rfl,_,rfl,ip (λhon=>?_) (λhon=>?_)⟩
    ·have hon:x.1.1.1=Str.ofString "on" :=by simpa using hon
     refine⟨_,rfl,_,rfl,d,_,rfl,g1,c,_,_,_,rfl,rfl,SqT.of hc,rfl,_,rfl,_,_,rfl,rfl,_,rfl,ip (λhgt=>?_) (λhgt=>?_)⟩
     ·have hgt:on<a:=by simpa using hgt
      exact bad λz=>by have:=z.1 hon;omega
     ·have hgt:¬on<a:=by simpa using hgt
      refine⟨_,rfl,p1,_,_,_,rfl,rfl,IF,rfl,rfl,_,rfl,ip (λhbk=>?_) (λ_=>jO (good ⟨λ_=>by omega,λhbk=>absurd (by rw[<-hbk,hon]) hn⟩))⟩
      have hbk:x.1.1.1=Str.ofString "back" :=by simpa using hbk
      exact absurd (by rw[<-hbk,hon]) hn
    ·have hon:¬x.1.1.1=Str.ofString "on" :=by simpa using hon
     refine jO ?_
     refine⟨_,rfl,p1,_,_,_,rfl,rfl,IF,rfl,rfl,_,rfl,ip (λhbk=>?_) (λhbk=>?_)⟩
     ·have hbk:x.1.1.1=Str.ofString "back" :=by simpa using hbk
      refine⟨_,rfl,_,rfl,d,_,rfl,g1,c,_,_,_,rfl,rfl,SqT.of hc,rfl,_,rfl,_,_,rfl,rfl,_,rfl,ip (λhgt=>?_) (λhgt=>?_)⟩
      ·have hgt:bk<b':=by simpa using hgt
       exact bad λz=>by have:=z.2 hbk;omega
      ·have hgt:¬bk<b':=by simpa using hgt
       exact good ⟨λz=>absurd z hon,λ_=>by omega⟩
     ·have hbk:¬x.1.1.1=Str.ofString "back" :=by simpa using hbk
      exact jO (good ⟨λz=>absurd z hon,λz=>absurd z hbk⟩)
  ·rintro σ H3 ⟨x5,x6,x7,rfl,s3,al⟩
   rw[aa,aX]at al
   have:=k H3 (S2.trans s3)
   rw[sW (show qH l lk t on bk from⟨near,λm hm=>by
    obtain⟨x,hx,rfl⟩:=(ph m).mp hm
    exact al x hx⟩)]at this
   exact this
end
noncomputable abbrev W3:=List Int×Int×Int
noncomputable def dW (r:W3):PyData:=.tuple [dI r.1,.int r.2.1,.int r.2.2]
noncomputable def dWs (rows:List W3):PyData:=.list (rows.map dW)
noncomputable def jV (rows:List W3)(s:List Int):Option (Int×Int):=(rows.find? λr=>decide (r.1=s)).map (·.2)
noncomputable def Fu (l:Ln)(tr:List Int)(rows:List W3):Prop:=pE l tr (rows.map (·.1))/\jV rows tr=some (0,0)/\∀ r∈rows,qH l (jV rows) r.1 r.2.1 r.2.2
variable {rows:List W3}
theorem wX (nd:(rows.map (·.1)).Nodup){r:W3}(h:r∈rows):jV rows r.1=some r.2:=by
 unfold jV
 induction rows with
 |nil=>cases h
 |cons q qs ih=>
  rw[aZ,bq]at nd
  by_cases e:q.1=r.1
  ·rw[cD (by simpa using e)]
   rcases aE.mp h with z |z
   ·rw[z];rfl
   ·exact absurd (ao.mpr ⟨r,z,e.symm⟩) nd.1
  ·rw[cm (by simpa using e)]
   rcases aE.mp h with z |z
   ·exact absurd (by rw[z]) e
   ·exact ih nd.2 z
theorem AI {s:List Int}{n:Int×Int}(h:jV rows s=some n):(s,n)∈rows:=by
 unfold jV at h
 cases q:rows.find? λr=>decide (r.1=s)with
 |none=>rw[q]at h;cases h
 |some r=>
  rw[q]at h
  have h1:=fk q
  have h2:r.1=s:=by simpa using List.find?_some q
  have h3:r.2=n:=by simpa using h
  rw[<-h2,<-h3];exact h1
theorem Jq {i:Nat}{y:V}(D:Das K H (rows.map dW) vs)(h:vs[i]? = some y):∃ (r:W3) (ad:Addr) (u:V),rows[i]? = some r/\y = .ref ad/\SqT K H ad [u,.int r.2.1,.int r.2.2]/\Da K H (dI r.1) u:=by
 obtain⟨d,e1,hd⟩:=Dgs.get D h
 rw[ah]at e1
 cases q:rows[i]? with
 |none=>rw[q]at e1;cases e1
 |some r=>
  rw[q]at e1
  cases e1
  unfold dW at hd
  obtain⟨ad,us,rfl,ht,q⟩:=ie.mp hd
  obtain⟨v1,r',rfl,h1,q⟩:=gm.mp q
  obtain⟨v2,r',rfl,h2,q⟩:=gm.mp q
  obtain⟨v3,r',rfl,h3,q⟩:=gm.mp q
  cases gN.mp q
  cases iB.mp h2
  cases iB.mp h3
  exact⟨r,ad,v1,rfl,rfl,ht,h1⟩
noncomputable def WK (G:Hp):List W3->List (List Key×V)->Prop
 |[],[]=>True
 |r::rs,kv::ks=>(kv.1=kyI r.1/\∃ c,kv.2 = .ref c/\G c=some (.tup [.int r.2.1,.int r.2.2]))/\WK G rs ks
 |_,_=>False
theorem WK.snoc {G:Hp}{r:W3}{c:Addr}(hc:G c=some (.tup [.int r.2.1,.int r.2.2])):∀ {rs:List W3}{ks:List (List Key×V)},WK G rs ks->WK G (rs ++ [r]) (ks ++ [(kyI r.1,.ref c)])
 |[],[],_=>⟨⟨rfl,c,rfl,hc⟩,trivial⟩
 |_::_,_::_,h=>⟨h.1,WK.snoc hc h.2⟩
 |[],_::_,h=>h.elim
 |_::_,[],h=>h.elim
theorem WK.imp {G G':Hp}(f:∀ c a b,G c=some (.tup [.int a,.int b])->G' c=some (.tup [.int a,.int b])):∀ {rs:List W3}{ks:List (List Key×V)},WK G rs ks->WK G' rs ks
 |[],[],_=>trivial
 |_::_,_::_,h=>⟨⟨h.1.1,h.1.2.imp λc z=>⟨z.1,f _ _ _ z.2⟩⟩,WK.imp f h.2⟩
 |[],_::_,h=>h.elim
 |_::_,[],h=>h.elim
theorem WK.len {G:Hp} :∀ {rs:List W3}{ks:List (List Key×V)},WK G rs ks->ks.length=rs.length
 |[],[],_=>rfl
 |_::_,_::_,h=>by rw[aO,aO,WK.len h.2]
 |[],_::_,h=>h.elim
 |_::_,[],h=>h.elim
theorem WK.no {G:Hp}{s:List Int} :∀ {rs:List W3}{ks:List (List Key×V)},WK G rs ks->jV rs s=none->jM ks (kyI s)=none
 |[],[],_,_=>rfl
 |r::rs,kv::ks,h,e=>by
  by_cases z:r.1=s
  ·unfold jV at e;rw[cD (by simpa using z)]at e;cases e
  ·unfold jV at e;rw[cm (by simpa using z)]at e
   unfold jM;rw[cm (by rw[h.1.1];simpa using λy=>z (oB y))]
   exact WK.no h.2 e
 |[],_::_,h,_=>h.elim
 |_::_,[],h,_=>h.elim
theorem WK.yes {G:Hp}{s:List Int}{a b:Int} :∀ {rs:List W3}{ks:List (List Key×V)},WK G rs ks->jV rs s=some (a,b)->∃ c,jM ks (kyI s)=some (.ref c)/\G c=some (.tup [.int a,.int b])
 |[],[],_,e=>by cases e
 |r::rs,kv::ks,h,e=>by
  by_cases z:r.1=s
  ·unfold jV at e;rw[cD (by simpa using z)]at e
   have e:r.2=(a,b):=by simpa using e
   obtain⟨h1,c,h2,h3⟩:=h.1
   refine⟨c,?_,by rw[h3,e]⟩
   unfold jM;rw[cD (by rw[h1,z];simp),<-h2];rfl
  ·unfold jV at e;rw[cm (by simpa using z)]at e
   unfold jM;rw[cm (by rw[h.1.1];simpa using λy=>z (oB y))]
   exact WK.yes h.2 e
 |[],_::_,h,_=>h.elim
 |_::_,[],h,_=>h.elim
theorem WK.at {G:Hp} :∀ {rs:List W3}{ks:List (List Key×V)} (i:Nat) {r:W3}{kv:List Key×V},WK G rs ks->rs[i]? = some r->ks[i]? = some kv->kv.1=kyI r.1
 |[],[],_,_,_,_,e,_=>by cases e
 |r::rs,kv::ks,0,_,_,h,e1,e2=>by cases e1;cases e2;exact h.1.1
 |r::rs,kv::ks,i+1,_,_,h,e1,e2=>WK.at i h.2 e1 e2
 |[],_::_,_,_,_,h,_,_=>h.elim
 |_::_,[],_,_,_,h,_,_=>h.elim
theorem WK.wd {G:Hp}{rs:List W3}{ks:List (List Key×V)}(h:WK G rs ks)(hd:Rd G d (.dT ks)):WD G d ks (jV rs):=⟨hd,λ_ e=>h.no e,λ_ _ _ e=>h.yes e⟩
theorem CJ (nd:(rows.map (·.1)).Nodup){i:Nat}{r:W3}(h:rows[i]? = some r):jV (rows.take i) r.1=none:=by
 cases q:jV (rows.take i) r.1 with
 |none=>rfl
 |some n=>
  exfalso
  obtain⟨j,hj,ej⟩:=List.mem_take_iff_getElem.mp (AI q)
  obtain⟨hir,eir⟩:=af.mp h
  have e1:(rows.map (·.1))[j]'(by rw[aa];omega)=(rows.map (·.1))[i]'(by rw[aa];exact hir):=by
   rw[bY,bY,ej,eir]
  have:=(cE nd).mp e1
  omega
noncomputable def dP (a b:Int):PyData:=.tuple [.int a,.int b]
theorem Ek (a b:Int):OkD (dP a b):=⟨rfl,by simp[dP,PyData.depth,PyData.depthAll]⟩
theorem CB:OkD .none:=⟨rfl,by simp[PyData.depth]⟩
theorem KW (a b c d:Int):PyData.eqv (dP a b) (dP c d)=decide ((a,b)=(c,d)):=by
 rw[bN]
 simp[dP,PyData.eqv,PyData.eqvAll]
theorem CY (a b:Int):PyData.eqv .none (dP a b)=false:=rfl
theorem IZ {c:Addr}{a b:Int}(h:H c=some (.tup [.int a,.int b])):Da K H (dP a b) (.ref c):=ie.mpr ⟨c,_,rfl,SqT.of h,Dgs.two (iB.mpr rfl) (iB.mpr rfl)⟩
noncomputable def Br (K:PySem.W.Frag):Sp:=λvs H Q _=>∃ (v u x:V) (l:Ln) (tr:List Int) (rows:List W3),vs = [v,u,x]/\Da K H (dL l) v/\Da K H (dI tr) u/\Da K H (dWs rows) x/\gj l/\rows.length<=4096000/\(∀ r∈rows,r.1.length<=900)/\TH.Cls (rows.map (·.1))/\∀ H',fL H H'->Q (.bl (dec (Fu l tr rows))) H'
noncomputable abbrev ka:Stmt:=top 40
theorem sQ:gf ["line","train","rows","ways"] ["line","train","rows"] (fM ka):=⟨rfl,rfl,rfl,by decide +kernel,rfl,by decide +kernel,by decide +kernel⟩
theorem lD:gF (fM ka) ["line","train","rows","ways"] {kind:=.function,names:=[(Str.ofString ".0",.local),(Str.ofString "standing",.local),(Str.ofString "on",.local),(Str.ofString "back",.local)],isGenerator:=false,isCoroutine:=false,more:=[]} ["standing","on","back"] 3 [none,none,none]:=⟨rfl,by decide +kernel,by decide +kernel,by decide +kernel,rfl,by decide +kernel,rfl,by decide +kernel⟩
theorem lC:gF (fM ka) ["line","train","rows","ways"] {kind:=.function,names:=[(Str.ofString ".0",.local),(Str.ofString "standing",.local),(Str.ofString "on",.local),(Str.ofString "back",.local),(Str.ofString "tuple",.globalImplicit)],isGenerator:=false,isCoroutine:=false,more:=[]} ["standing","on","back"] 3 [none,none,none]:=⟨rfl,by decide +kernel,by decide +kernel,by decide +kernel,rfl,by decide +kernel,rfl,by decide +kernel⟩
theorem qu:gF (fM ka) ["line","train","rows","ways"] {kind:=.function,names:=[(Str.ofString ".0",.local),(Str.ofString "standing",.local),(Str.ofString "allow_ways",.globalImplicit),(Str.ofString "line",.free),(Str.ofString "ways",.free)],isGenerator:=false,isCoroutine:=false,more:=[]} ["standing","line","ways"] 1 [none,some 0,some 3]:=⟨rfl,by decide +kernel,by decide +kernel,by decide +kernel,rfl,by decide +kernel,rfl,by decide +kernel⟩
section
variable {P:Program}{w:World}{K:PySem.W.Frag}{mg:Str->Option Value}{base:Heap}{f:Addr}{fd:FuncData}
theorem zg (F:Fn K mg "are_ways" ka ["line","train","rows"] f fd)(B:Bm mg)(gM:Fn K mg "are_standings" iH ["line","train","standings"] f1 fd1)(iU:fV P w K mg base CX0 4 f1 fd1 ["line","train","standings"] (um K))
  (jU:Fn K mg "allow_ways" lZ ["line","ways","standing"] f2 fd2) (oJ:fV P w K mg base CX0 4 f2 fd2 ["line","ways","standing"] (wq K)):
  fV P w K mg base CX0 5 f fd ["line","train","rows"] (Br K):=by
 refine F.F.ok sQ (λvs H Q E h=>?_) (λcdv A outer s H vs Q E hr h=>?_)
 ·obtain⟨v,u,x,l,tr,rows,rfl,_⟩:=h;rfl
 ·obtain⟨v,u,x,l,tr,rows,rfl,hv,hu,hx,ok,hz,hzs,hC,k⟩:=h
  obtain⟨a,us,rfl,hA,D⟩:=iE.mp hx
  obtain⟨at0,rfl,hT0⟩:=ij.mp hu
  have ul:us.length=rows.length:=by have:=Dgs.length D;rw[aa]at this;exact this
  refine⟨_,(fH (gR (sf (uD (fP iU (hr.mono (by decide)) rfl gM.m gM.F.kp gM.b .nil gv (fD (pv 0) (fD (pv 1) (fD (lJ (gq (pv 2)) rfl lD (.tup (.cons (.name (by decide)) (.cons (.name (by decide)) (.cons (.name (by decide)) .nil)))) (λ_ _ _ _=>(iu (n:=3) rfl (fQ (fO (i:=0) lD.nd rfl (Or.inl rfl)) (fQ (fO (i:=1) lD.nd rfl (Or.inl rfl)) (fQ (fO (i:=2) lD.nd rfl (Or.inl rfl)) gQ))))) (λ_ _ _ _=>g8) (λ_ _ _ _=>(pv 0))) fG))))))
 (fJ (fW i9)) fZ)
 (fH (fS (i:=3) sQ.nd rfl (Or.inr rfl) (Eb (ER hr) (gq (pv 2)) rfl lC (.tup (.cons (.name (by decide)) (.cons (.name (by decide)) (.cons (.name (by decide)) .nil)))) (λ_ _ _ _=>(iu (n:=3) rfl (fQ (fO (i:=0) lC.nd rfl (Or.inl rfl)) (fQ (fO (i:=1) lC.nd rfl (Or.inl rfl)) (fQ (fO (i:=2) lC.nd rfl (Or.inl rfl)) gQ))))) (λ_ _ _ _=>g8) (λ_ _ _ _=>(fX (kD (K:=K) rfl) rfl B.tuple cb (fD (pv 0) fG))) (λ_ _ _ _=>(gA (fD (pv 1) (fD (pv 2) fG))))))
 (fH (gR (iC (Ib hr.units) (zb (jE hr) (pv 3) (fX gD rfl B.tuple cb (fD (pv 1) fG)) ⟨rfl,rfl,rfl,rfl⟩) (gA (fD fI (fD fI fG))) (jW _))
 (fJ (fW i9)) fZ)
 (fJ (fW (gd (vA rfl) rfl B.all boot_all (fD (xP (lJ (xN (pv 3)) rfl qu (.name (by decide)) (λ_ _ _ _=>(fO (i:=0) qu.nd rfl (Or.inl rfl))) (λ_ _ _ _=>g8) (λ_ _ _ _=>(fP oJ (hr.mono (by decide)) rfl jU.m jU.F.kp jU.b .nil gv (fD (pv 1) (fD (pv 2) (fD (pv 0) fG))))))) fG))))))),?_⟩
  refine⟨_,rfl,_,rfl,_,rfl,a,rfl,⟨_,hA⟩,λp np=>?_⟩
  refine rD (K:=K) rows.length rows (λr=>dI r.1) np rfl (j4 (by omega)) (λi G s hi=>(gK hA).go i G s (by omega)) (λG s=>by have:=(gK hA).stop G s;rw[ul]at this;exact this) ?_ ?_
  ·intro i y r G G' sG ⟨vs',hl'⟩ yy hd P1 P0 kk
   obtain⟨rfl,hy⟩:=(gK hA).yld i G y G' sG (by have:=(af.mp hd).1;omega) yy
   obtain⟨r',ad,uu,hr',rfl,hT,hU⟩:=Jq D hy
   rw[hd]at hr'
   cases hr'
   refine⟨ad,_,rfl,gx sG hT,rfl,_,_,rfl,_,_,rfl,_,_,rfl,rfl,?_⟩
   exact GW ⟨_,rfl,kk _ _ (fL.refl _) (Da.same (qT sG np) hU)⟩
  intro vs1 H1 s1 h1 D1
  have D1':Das K H1 ((rows.map (·.1)).map dI) vs1:=by rw[bo];exact Das.same ja D1
  refine⟨_,_,_,l,tr,rows.map (·.1),rfl,Da.same s1 hv,Da.same s1 hu,iE.mpr ⟨p,vs1,rfl,SqL.of h1,D1'⟩,ok,by rw[aa];exact hz,λz hz=>?_,hC,λH2 s2=>?_⟩
  ·obtain⟨r,hr,rfl⟩:=ao.mp hz
   exact hzs r hr
  have S2:=s1.trans s2
  refine⟨_,rfl,ip (λh=>?_) (λh=>?_)⟩
  ·have h:(!dec (pE l tr (rows.map (·.1))))=true:=h
   have:=k H2 S2
   rw[lW λz:Fu l tr rows=>by rw[sW z.1]at h;cases h]at this
   exact this
  have h:¬(!dec (pE l tr (rows.map (·.1))))=true:=h
  have hst:pE l tr (rows.map (·.1)):=aJ λz=>h (by rw[lW z];rfl)
  clear h D1 D1' h1
  have hA2:SqL K H2 a us:=S2.seq hA
  have D2:=Das.same S2 D
  refine⟨_,rfl,a,rfl,⟨_,hA2⟩,λd nd=>?_⟩
  refine⟨λi m G=>m=rows.length-i/\i<=rows.length/\fL H2 G/\∃ ks,G d=some (.dT ks)/\WK G (rows.take i) ks,⟨rows.length,by simp,aI _,fF nd,[],fE,trivial⟩,?_⟩
  rintro i m G ⟨rfl,hi,sG,ks,hd,hw⟩
  by_cases hlt:i<rows.length
  ·refine .inr ⟨(gK hA2).go i G sG (by omega),λG'=>(i+1)<=rows.length/\fL H2 G'/\∃ ks,G' d=some (.dT ks)/\WK G' (rows.take (i+1)) ks,λG' ⟨n1,n2,n3⟩=>⟨rows.length-(i+1),by omega,rfl,n1,n2,n3⟩,λy G' yy=>?_⟩
   obtain⟨rfl,hy⟩:=(gK hA2).yld i G y G' sG (by omega) yy
   obtain⟨r,ad,uu,hr',rfl,hT,hU⟩:=Jq (Das.same sG D2) hy
   obtain⟨ub,rfl,hub⟩:=ij.mp hU
   refine⟨ad,_,rfl,hT,rfl,_,_,rfl,_,_,rfl,_,_,rfl,rfl,?_⟩
   unfold Ag
   dsimp only
   rw[aQ rfl]
   refine⟨_,rfl,ub,_,rfl,.inl ⟨hub,λb nb=>?_⟩⟩
   have sb:=fF (o:=.tup (r.1.map V.int)) nb
   have hb:=fE (H:=G') (a:=b) (o:=.tup (r.1.map V.int))
   have hd':=sb _ _ hd
   have hw':=hw.imp λc x y z=>sb _ _ z
   generalize upd G' b _=G1 at sb hb hd' hw' ⊢
   refine⟨_,rfl,_,rfl,by show 2<=sizeLine;decide,λc nc=>?_⟩
   have sc:=fF (o:=.tup [.int r.2.1,.int r.2.2]) nc
   have hc:=fE (H:=G1) (a:=c) (o:=.tup [.int r.2.1,.int r.2.2])
   have hd2:=sc _ _ hd'
   have hw2:=hw'.imp λc x y z=>sc _ _ z
   have hb2:=sc _ _ hb
   have s2':=sb.trans sc
   generalize upd G1 c _=G2 at sc hc hd2 hw2 hb2 s2' ⊢
   refine⟨ks,kyI r.1,b,rfl,hd2,by rw[hX];exact hb2,j4 (by rw[hw.len,aM];omega),hlt,fL.upd (sG.trans s2') nd,_,fE,?_⟩
   have hv0:jM ks (kyI r.1)=none:=hw.no (CJ hst.1 hr')
   rw[L2.oY _ hv0,aV,hr']
   refine WK.imp (λc' x y z=>?_) (WK.snoc hc hw2)
   rw[fK (gy z hd2 (by intro z;cases z))];exact z
  have e:i=rows.length:=by omega
  subst e
  rw[aX]at hw
  refine .inl ⟨by have:=(gK hA2).stop G sG;rw[ul]at this;exact this,?_⟩
  have SG:=S2.trans sG
  have nd0:H d=none:=wW S2 nd
  refine⟨_,rfl,d,rfl,.inr ⟨_,.inl hd⟩,_,rfl,at0,_,rfl,.inl ⟨SG.seq hT0,λb nb=>?_⟩⟩
  have sb:=fF (o:=.tup (tr.map V.int)) nb
  have hb:=fE (H:=G) (a:=b) (o:=.tup (tr.map V.int))
  have hd3:=sb _ _ hd
  have hw3:=hw.imp λc x y z=>sb _ _ z
  have S3:=SG.trans sb
  generalize upd G b _=G3 at sb hb hd3 hw3 S3 ⊢
  have W3':=hw3.wd (.inl hd3)
  refine⟨_,W3'.get hb,?_⟩
  refine⟨by show 2<=sizeLine;decide,λc0 nc0=>?_⟩
  have s4:=fF (o:=.tup [.int 0,.int 0]) nc0
  have hc0:=fE (H:=G3) (a:=c0) (o:=.tup [.int 0,.int 0])
  have hd4:=s4 _ _ hd3
  have hw4:=hw3.imp λc x y z=>s4 _ _ z
  have S4:=S3.trans s4
  generalize upd G3 c0 _=G4 at s4 hc0 hd4 hw4 S4 ⊢
  have zx:jV rows tr≠some (0,0)->Q (.bl false) G4:=λhn=>by
   have:=k G4 S4
   rw[lW λz:Fu l tr rows=>hn z.2.1]at this
   exact this
  cases q:jV rows tr with
  |none=>
   rw[hw4.no q]
   refine⟨.none,dP 0 0,(by show Dg _ _ PyData.none V.non;simp only[Dg]),IZ hc0,CB,Ek 0 0,_,rfl,?_⟩
   rw[CY]
   exact nC (zx (by rw[q];intro z;cases z))
  |some ab=>
   obtain⟨ra,rb⟩:=ab
   obtain⟨c,hc,hc'⟩:=hw4.yes q
   rw[hc]
   refine⟨dP ra rb,dP 0 0,IZ hc',IZ hc0,Ek _ _,Ek 0 0,_,rfl,?_⟩
   rw[KW]
   refine ip (λh=>?_) (λh=>?_)
   ·have h:¬(ra,rb)=(0,0):=λz=>by rw[bB z]at h;cases h
    exact zx (by rw[q];intro z;exact h (bc z))
   have hn0:(ra,rb)=(0,0):=aJ λz=>h (by rw[aW z];rfl)
   rw[hn0]at q
   refine⟨d,ks,hd4,λo=>?_⟩
   have n0:fL H (upd G4 d (.frz o (.dT ks))):=fL.upd S4 nd0
   have hf0:=fE (H:=G4) (a:=d) (o:=.frz o (.dT ks))
   have hw5:WK (upd G4 d (.frz o (.dT ks))) rows ks:=hw4.imp λc' x y z=>by rw[fK (gy z hd4 (by intro z;cases z))];exact z
   generalize upd G4 d _=G5 at n0 hf0 hw5 ⊢
   have kl:=hw5.len
   refine⟨_,rfl,d,o,ks,rfl,hf0,λq nq=>tP rows.length rows (λ_=>true) (λr=>V.bl (dec (qH l (jV rows) r.1 r.2.1 r.2.2))) nq rfl (j4 (by omega)) (λi G6 s6 hi=>⟨s6 _ _ hf0,by omega⟩) (λG6 s6=>⟨s6 _ _ hf0,by omega⟩) ?_ ?_⟩
   ·intro i y r G6 G6' s6 yy hdr P1 P0 p1 p0
    obtain⟨rfl,bb,pp,hpp,rfl,hbb⟩:=yy
    have ep:=hw5.at i hdr hpp
    rw[ep,hX]at hbb
    have hrm:=au hdr
    obtain⟨_,rne,_⟩:=hst.2 r.1 (ao.mpr ⟨r,hrm,rfl⟩)
    refine iX ?_
    exact⟨_,rfl,_,rfl,_,rfl,_,d,bb,l,ks,jV rows,r.1,r.2.1,r.2.2,rfl,Da.same (n0.trans s6) hv,(WK.wd hw5 (.inr ⟨o,hf0⟩)).same s6,hbb,ok,rne,hzs r hrm,wX hst.1 hrm,λG7 s7=>p1 G7 rfl s7⟩
   intro G6 s6 hq
   rw[kU]at hq
   have hf6:=s6 _ _ hf0
   refine⟨hf6,q,rows.map λr=>dec (qH l (jV rows) r.1 r.2.1 r.2.2),rfl,SqL.of ?_,?_⟩
   ·have hqd:q≠d:=λe=>by rw[e,hf6]at hq;cases hq
    rw[fK hqd,hq,bo];rfl
   have e:(rows.map λr=>dec (qH l (jV rows) r.1 r.2.1 r.2.2)).all id=dec (Fu l tr rows):=by
    rw[bN,cx,mj]
    constructor
    ·exact λz=>⟨hst,by assumption,λr hr=>mj.mp (z _ (ao.mpr ⟨r,hr,rfl⟩))⟩
    ·rintro z b hb
     obtain⟨r,hr,rfl⟩:=ao.mp hb
     exact mj.mpr (z.2.2 r hr)
   rw[e]
   exact k _ (fL.upd (n0.trans s6) nd0)
end
noncomputable def yR (K:PySem.W.Frag):Sp:=λvs H Q _=>∃ (v:V) (d b:Addr) (l:Ln) (rows:Rows) (r:List Int×Int),vs = [v,.ref d,.ref b]/\Da K H (dL l) v/\Rd H d (.dT (kvR rows))/\H b=some (.tup (r.1.map V.int))/\gj l/\r.1≠ []/\r.1.length<=900/\g6 rows r.1=some r.2/\∀ H',fL H H'->Q (.bl (dec (sS l rows r))) H'
noncomputable def xC (K:PySem.W.Frag):Sp:=λvs H Q _=>∃ (v u x:V) (l:Ln) (tr:List Int) (rows:Rows),vs = [v,u,x]/\Da K H (dL l) v/\Da K H (dI tr) u/\Da K H (K2 rows) x/\gj l/\rows.length<=4096000/\(∀ r∈rows,r.1.length<=900)/\TH.Cls (rows.map (·.1))/\∀ H',fL H H'->Q (.bl (dec (zX l tr rows))) H'
noncomputable def Bd (K:PySem.W.Frag):Sp:=λvs H Q _=>∃ (v u x:V) (l:Ln) (tr:List Int) (ss:List (List Int)),vs = [v,u,x]/\Da K H (dL l) v/\Da K H (dI tr) u/\Da K H (dLI ss) x/\gj l/\ss.length<=4096000/\(∀ s∈ss,s.length<=900)/\TH.Cls ss/\∀ H',fL H H'->Q (.bl (dec (zX l tr (ss.map λs=>(s,0))))) H'
noncomputable abbrev lr:Stmt:=top 30
theorem jH:gf ["line","numbers","standing","most","move","behind","there"] ["line","numbers","standing"] (fM lr):=⟨rfl,rfl,rfl,by decide +kernel,rfl,by decide +kernel,by decide +kernel⟩
noncomputable abbrev iN:Stmt:=top 31
theorem oV:gf ["line","train","rows","numbers"] ["line","train","rows"] (fM iN):=⟨rfl,rfl,rfl,by decide +kernel,rfl,by decide +kernel,by decide +kernel⟩
theorem kY:gF (fM iN) ["line","train","rows","numbers"] {kind:=.function,names:=[(Str.ofString ".0",.local),(Str.ofString "standing",.local),(Str.ofString "number",.local)],isGenerator:=false,isCoroutine:=false,more:=[]} ["standing","number"] 2 [none,none]:=⟨rfl,by decide +kernel,by decide +kernel,by decide +kernel,rfl,by decide +kernel,rfl,by decide +kernel⟩
theorem kX:gF (fM iN) ["line","train","rows","numbers"] {kind:=.function,names:=[(Str.ofString ".0",.local),(Str.ofString "standing",.local),(Str.ofString "number",.local),(Str.ofString "tuple",.globalImplicit)],isGenerator:=false,isCoroutine:=false,more:=[]} ["standing","number"] 2 [none,none]:=⟨rfl,by decide +kernel,by decide +kernel,by decide +kernel,rfl,by decide +kernel,rfl,by decide +kernel⟩
theorem n8:gF (fM iN) ["line","train","rows","numbers"] {kind:=.function,names:=[(Str.ofString ".0",.local),(Str.ofString "standing",.local),(Str.ofString "allow_moves",.globalImplicit),(Str.ofString "line",.free),(Str.ofString "numbers",.free)],isGenerator:=false,isCoroutine:=false,more:=[]} ["standing","line","numbers"] 1 [none,some 0,some 3]:=⟨rfl,by decide +kernel,by decide +kernel,by decide +kernel,rfl,by decide +kernel,rfl,by decide +kernel⟩
noncomputable abbrev nO:Stmt:=top 32
theorem Al:gf ["line","train","standings"] ["line","train","standings"] (fM nO):=⟨rfl,rfl,rfl,by decide +kernel,rfl,by decide +kernel,by decide +kernel⟩
theorem rN:gF (fM nO) ["line","train","standings"] {kind:=.function,names:=[(Str.ofString ".0",.local),(Str.ofString "standing",.local)],isGenerator:=false,isCoroutine:=false,more:=[]} ["standing"] 1 [none]:=⟨rfl,by decide +kernel,by decide +kernel,by decide +kernel,rfl,by decide +kernel,rfl,by decide +kernel⟩
section
variable {P:Program}{w:World}{K:PySem.W.Frag}{mg:Str->Option Value}{base:Heap}{f:Addr}{fd:FuncData}{c2:Addr}
theorem AZ {rows:Rows}{s:List Int}(hd:Rd H d (.dT (kvR rows)))(hb:H b=some (.tup (s.map V.int))):oK H d (.ref b) ((g6 rows s).map V.int):=
 .inr ⟨_,kyI s,b,hd,rfl,by rw[hX];exact hb,(oC rows s).symm⟩
theorem uQ (F:Fn K mg "allow_moves" lr ["line","numbers","standing"] f fd)(B:Bm mg)(gE:Fn K mg "moves_of" j9 ["line","train"] f1 fd1)(iK:fV P w K mg base CX0 3 f1 fd1 ["line","train"] (mF K)):
  fV P w K mg base CX0 4 f fd ["line","numbers","standing"] (yR K):=by
 refine F.F.ok jH (λvs H Q E h=>?_) (λcdv A outer s H vs Q E hr h=>?_)
 ·obtain⟨v,d,b,l,rows,r,rfl,_⟩:=h;rfl
 ·obtain⟨v,d,b,l,rows,r,rfl,hv,hd,hb,ok,rne,rl,hr0,k⟩:=h
  refine⟨_,(fH (fS (i:=3) jH.nd rfl (Or.inl rfl) (fT iS (ly (jE hr) (pv 1) (pv 2) (λ_ _=>rfl)) fI))
 (fH (ir aN rfl (gq (fP iK (hr.mono (by decide)) rfl gE.m gE.F.kp gE.b .nil gv (fD (pv 0) (fD (fX iM rfl B.list de (fD (pv 2) fG)) fG)))) (iu (n:=2) rfl (fQ (fO (i:=4) jH.nd rfl (Or.inl rfl)) (fQ (fO (i:=5) jH.nd rfl (Or.inl rfl)) gQ)))
 (fH (fS (i:=6) jH.nd rfl (Or.inl rfl) (fX gD rfl B.tuple cb (fD (pv 5) fG)))
 (fJ (gR (PW.pt (yW (gC (nU (jE hr) (pv 6) (pv 1))) (uB (gC (uF (ly (jE hr) (pv 1) (pv 6) (λ_ _=>rfl)) (pv 3))))))
 (fJ (fW i9)) fZ))))
 (fJ (fW i9)))),?_⟩
  have g0:=AZ hd hb
  rw[hr0]at g0
  refine⟨_,rfl,_,rfl,d,_,rfl,g0,_,_,rfl,rfl,?_⟩
  refine⟨_,rfl,_,rfl,b,_,rfl,.inr (SqT.of hb),λq nq=>?_⟩
  have s1:=fF (o:=.lst (r.1.map V.int)) nq
  refine⟨_,_,l,r.1,rfl,Da.same s1 hv,jc fE,ok,rne,rl,λpm vm H2 s2 npm hpm Dm=>?_⟩
  obtain⟨bs,hb1,hb2,hb3⟩:=ED Dm
  subst hb2
  have S2:=s1.trans s2
  generalize upd H q _=H1 at s1 s2 npm Dm hb3 nq
  have ph:∀ m,m∈mvs l r.1↔∃ x∈bs,x.1=m:=λm=>by
   rw[<-hb1,ao]
  refine⟨pm,rfl,⟨_,SqL.of hpm⟩,pk (K:=K) (a:=pm) (xs:=bs.map λx=>V.ref x.2.1) (λi σ H3=>∃ (x4 x5 x6:Option V),σ = [some v,some (.ref d),some (.ref b),some (.int (r.2+1)),x4,x5,x6]/\fL H2 H3/\∀ x∈bs.take i,∃ n,g6 rows x.1.2=some n/\n<=r.2+1)
   ⟨none,none,none,rfl,fL.refl _,λx hx=>by simp at hx⟩ (λi σ H3 _ ⟨_,_,_,_,s,_⟩=>SqL.of (s _ _ hpm)) ?_ ?_⟩
  ·rintro i y σ H3 hi ⟨x4,x5,x6,rfl,s3,al⟩
   rw[ah]at hi
   obtain⟨x,hx⟩:∃ x,bs[i]? = some x:=by
    cases q:bs[i]? with
    |none=>rw[q]at hi;cases hi
    |some x=>exact⟨x,rfl⟩
   rw[hx]at hi
   cases hi
   obtain⟨⟨p1,ht,hdm⟩,hbb,_,_⟩:=hb3 x (au hx)
   refine⟨x.2.1,_,rfl,gx s3 ht,rfl,_,_,rfl,_,_,rfl,rfl,?_⟩
   refine⟨_,rfl,x.2.2,_,rfl,.inl ⟨SqL.of (s3 _ _ hbb),λtp ntp=>?_⟩⟩
   have s4:=s3.trans (fF (o:=.tup (x.1.2.map V.int)) ntp)
   have htp:=fE (H:=H3) (a:=tp) (o:=.tup (x.1.2.map V.int))
   generalize upd H3 tp _=H4 at s4 htp ⊢
   have g1:=AZ (Bt hd (S2.trans s4)) htp
   refine⟨_,rfl,_,rfl,d,_,rfl,g1,_,rfl,?_⟩
   cases q:g6 rows x.1.2 with
   |none=>
    refine nC (nC ?_)
    have:=k H4 (S2.trans s4)
    rw[lW λz:sS l rows r=>by
     obtain⟨n,h1,_⟩:=z x.1 ((ph _).mpr ⟨x,au hx,rfl⟩)
     rw[q]at h1;cases h1]at this
    exact this
   |some n=>
    rw[q]at g1
    refine jO ⟨_,rfl,_,rfl,d,_,rfl,g1,_,rfl,_,_,rfl,rfl,_,rfl,ip (λh=>?_) (λh=>?_)⟩
    ·have h:n>r.2+1:=by simpa using h
     have:=k H4 (S2.trans s4)
     rw[lW λz:sS l rows r=>by
      obtain⟨n',h1,h2⟩:=z x.1 ((ph _).mpr ⟨x,au hx,rfl⟩)
      rw[q]at h1;cases h1;omega]at this
     exact this
    ·have h:¬n>r.2+1:=by simpa using h
     refine⟨_,_,_,rfl,s4,λz hz=>?_⟩
     rw[aV,hx]at hz
     rcases aD.mp hz with w |w
     ·exact al z w
     ·have:z=x:=by simpa using w
      rw[this];exact⟨n,q,by omega⟩
  ·rintro σ H3 ⟨x4,x5,x6,rfl,s3,al⟩
   rw[aa,aX]at al
   have:=k H3 (S2.trans s3)
   rw[sW (show sS l rows r from λm hm=>by
    obtain⟨x,hx,rfl⟩:=(ph m).mp hm
    exact al x hx)]at this
   exact this
theorem uP (F:Fn K mg "are_numbers" iN ["line","train","rows"] f fd)(B:Bm mg)(gM:Fn K mg "are_standings" iH ["line","train","standings"] f1 fd1)(iU:fV P w K mg base CX0 4 f1 fd1 ["line","train","standings"] (um K))
  (jB:Fn K mg "allow_moves" lr ["line","numbers","standing"] f2 fd2) (nJ:fV P w K mg base CX0 4 f2 fd2 ["line","numbers","standing"] (yR K)):
  fV P w K mg base CX0 5 f fd ["line","train","rows"] (xC K):=by
 refine F.F.ok oV (λvs H Q E h=>?_) (λcdv A outer s H vs Q E hr h=>?_)
 ·obtain⟨v,u,x,l,tr,rows,rfl,_⟩:=h;rfl
 ·obtain⟨v,u,x,l,tr,rows,rfl,hv,hu,hx,ok,hz,hzs,hC,k⟩:=h
  obtain⟨a,us,rfl,hA,D⟩:=iE.mp hx
  obtain⟨at0,rfl,hT0⟩:=ij.mp hu
  have ul:us.length=rows.length:=by have:=Dgs.length D;rw[aa]at this;exact this
  refine⟨_,(fH (gR (sf (uD (fP iU (hr.mono (by decide)) rfl gM.m gM.F.kp gM.b .nil gv (fD (pv 0) (fD (pv 1) (fD (lJ (gq (pv 2)) rfl kY (.tup (.cons (.name (by decide)) (.cons (.name (by decide)) .nil))) (λ_ _ _ _=>(iu (n:=2) rfl (fQ (fO (i:=0) kY.nd rfl (Or.inl rfl)) (fQ (fO (i:=1) kY.nd rfl (Or.inl rfl)) gQ)))) (λ_ _ _ _=>g8) (λ_ _ _ _=>(pv 0))) fG))))))
 (fJ (fW i9)) fZ)
 (fH (fS (i:=3) oV.nd rfl (Or.inr rfl) (Eb (ER hr) (gq (pv 2)) rfl kX (.tup (.cons (.name (by decide)) (.cons (.name (by decide)) .nil))) (λ_ _ _ _=>(iu (n:=2) rfl (fQ (fO (i:=0) kX.nd rfl (Or.inl rfl)) (fQ (fO (i:=1) kX.nd rfl (Or.inl rfl)) gQ)))) (λ_ _ _ _=>g8) (λ_ _ _ _=>(fX (kD (K:=K) rfl) rfl B.tuple cb (fD (pv 0) fG))) (λ_ _ _ _=>(pv 1))))
 (fH (gR (iC zd (zb (jE hr) (pv 3) (fX gD rfl B.tuple cb (fD (pv 1) fG)) ⟨rfl,rfl,rfl,rfl⟩) fI (jW _))
 (fJ (fW i9)) fZ)
 (fJ (fW (gd (vA rfl) rfl B.all boot_all (fD (xP (lJ (xN (pv 3)) rfl n8 (.name (by decide)) (λ_ _ _ _=>(fO (i:=0) n8.nd rfl (Or.inl rfl))) (λ_ _ _ _=>g8) (λ_ _ _ _=>(fP nJ (hr.mono (by decide)) rfl jB.m jB.F.kp jB.b .nil gv (fD (pv 1) (fD (pv 2) (fD (pv 0) fG))))))) fG))))))),?_⟩
  refine⟨_,rfl,_,rfl,_,rfl,a,rfl,⟨_,hA⟩,λp np=>?_⟩
  refine rD (K:=K) rows.length rows (λr=>dI r.1) np rfl (B4 hz) (λi G s hi=>(gK hA).go i G s (by omega)) (λG s=>by have:=(gK hA).stop G s;rw[ul]at this;exact this) ?_ ?_
  ·intro i y r G G' sG ⟨vs',hl'⟩ yy hd P1 P0 kk
   obtain⟨rfl,hy⟩:=(gK hA).yld i G y G' sG (by have:=(af.mp hd).1;omega) yy
   obtain⟨r',ad,uu,hr',rfl,hT,hU⟩:=DK D hy
   rw[hd]at hr'
   cases hr'
   refine⟨ad,_,rfl,gx sG hT,rfl,_,_,rfl,_,_,rfl,rfl,?_⟩
   unfold Ag
   dsimp only
   rw[aQ rfl]
   exact⟨_,rfl,kk _ _ (fL.refl _) (Da.same (qT sG np) hU)⟩
  intro vs1 H1 s1 h1 D1
  have D1':Das K H1 ((rows.map (·.1)).map dI) vs1:=by rw[bo];exact Das.same ja D1
  refine⟨_,_,_,l,tr,rows.map (·.1),rfl,Da.same s1 hv,Da.same s1 hu,iE.mpr ⟨p,vs1,rfl,SqL.of h1,D1'⟩,ok,by rw[aa];exact hz,λz hz=>?_,hC,λH2 s2=>?_⟩
  ·obtain⟨r,hr,rfl⟩:=ao.mp hz
   exact hzs r hr
  have S2:=s1.trans s2
  refine⟨_,rfl,ip (λh=>?_) (λh=>?_)⟩
  ·have h:(!dec (pE l tr (rows.map (·.1))))=true:=h
   have:=k H2 S2
   rw[lW λz:zX l tr rows=>by rw[sW z.1]at h;cases h]at this
   exact this
  have h:¬(!dec (pE l tr (rows.map (·.1))))=true:=h
  have hst:pE l tr (rows.map (·.1)):=aJ λz=>h (by rw[lW z];rfl)
  clear h D1 D1' h1
  have hA2:SqL K H2 a us:=S2.seq hA
  have D2:=Das.same S2 D
  refine⟨_,rfl,a,rfl,⟨_,hA2⟩,λd nd=>?_⟩
  refine⟨λi m G=>m=rows.length-i/\i<=rows.length/\fL H2 G/\G d=some (.dT (kvR (rows.take i))),⟨rows.length,by simp,aI _,fF nd,fE⟩,?_⟩
  rintro i m G ⟨rfl,hi,sG,hd⟩
  by_cases hlt:i<rows.length
  ·refine .inr ⟨(gK hA2).go i G sG (by omega),λG'=>(i+1)<=rows.length/\fL H2 G'/\G' d=some (.dT (kvR (rows.take (i+1)))),λG' ⟨n1,n2,n3⟩=>⟨rows.length-(i+1),by omega,rfl,n1,n2,n3⟩,λy G' yy=>?_⟩
   obtain⟨rfl,hy⟩:=(gK hA2).yld i G y G' sG (by omega) yy
   obtain⟨r,ad,uu,hr',rfl,hT,hU⟩:=DK (Das.same sG D2) hy
   obtain⟨ub,rfl,hub⟩:=ij.mp hU
   refine⟨ad,_,rfl,hT,rfl,_,_,rfl,_,_,rfl,rfl,?_⟩
   unfold Ag
   dsimp only
   rw[aQ rfl]
   refine⟨_,rfl,ub,_,rfl,.inl ⟨hub,λb nb=>?_⟩⟩
   have sb:=fF (o:=.tup (r.1.map V.int)) nb
   refine⟨_,rfl,kvR (rows.take i),kyI r.1,b,rfl,sb _ _ hd,by rw[hX];exact fE,?_,hlt,?_,?_⟩
   ·unfold kvR
    rw[aa,aM]
    exact bL (show _<=4096000 by omega) (by rw[cy];decide)
   ·exact fL.upd (sG.trans sb) nd
   ·rw[fE]
    have hv0:jM (kvR (rows.take i)) (kyI r.1)=none:=by
     rw[oC]
     cases q:g6 (rows.take i) r.1 with
     |none=>rfl
     |some n=>
      exfalso
      have hm:=jK q
      obtain⟨j,hj,ej⟩:=List.mem_take_iff_getElem.mp hm
      have hj2:j<i:=by omega
      have hjr:j<rows.length:=by omega
      obtain⟨hir,eir⟩:=af.mp hr'
      have e1:(rows.map (·.1))[j]'(by rw[aa];exact hjr)=(rows.map (·.1))[i]'(by rw[aa];exact hir):=by
       rw[bY,bY,ej,eir]
      have:=(cE hst.1).mp e1
      omega
    rw[L2.oY _ hv0]
    unfold kvR
    rw[aV,hr',av]
    rfl
  have e:i=rows.length:=by omega
  subst e
  rw[aX]at hd
  refine .inl ⟨by have:=(gK hA2).stop G sG;rw[ul]at this;exact this,?_⟩
  have SG:=S2.trans sG
  have nd0:H d=none:=wW S2 nd
  refine⟨_,rfl,d,rfl,.inr ⟨_,.inl hd⟩,_,rfl,at0,_,rfl,.inl ⟨SG.seq hT0,λb nb=>?_⟩⟩
  have sb:=fF (o:=.tup (tr.map V.int)) nb
  have hb:=fE (H:=G) (a:=b) (o:=.tup (tr.map V.int))
  have hd3:=sb _ _ hd
  have S3:=SG.trans sb
  generalize upd G b _=G3 at sb hb hd3 S3 ⊢
  refine⟨_,AZ (.inl hd3) hb,?_⟩
  have zx:g6 rows tr≠some 0->(let r:={nx:=λx H'=>Q V.non H',rt:=Q:Ends}.rt (.bl false) G3;r):=λhn=>by
   have:=k G3 S3
   rw[lW λz:zX l tr rows=>hn z.2.1]at this
   exact this
  have fin:g6 rows tr=some 0->True:=λ_=>trivial
  cases q:g6 rows tr with
  |none=>
   refine⟨rfl,_,rfl,nC ?_⟩
   exact zx (by rw[q];intro z;cases z)
  |some n=>
   refine⟨rfl,_,rfl,ip (λh=>?_) (λh=>?_)⟩
   ·exact zx (by rw[q];intro z;cases z;exact absurd h (by decide))
   have hn0:n=0:=by
    have h:V.int n=V.int 0:=aJ λz=>h (by
     show(!decide (V.int n=V.int 0))=true
     rw[aW z];rfl)
    exact V.int.inj h
   subst hn0
   refine⟨d,kvR rows,hd3,λo=>?_⟩
   have n0:fL H (upd G3 d (.frz o (.dT (kvR rows)))):=fL.upd S3 nd0
   have hf0:=fE (H:=G3) (a:=d) (o:=.frz o (.dT (kvR rows)))
   generalize upd G3 d _=G4 at n0 hf0 ⊢
   have kl:(kvR rows).length=rows.length:=by unfold kvR;rw[aa]
   refine⟨_,rfl,d,o,kvR rows,rfl,hf0,λq nq=>tP rows.length rows (λ_=>true) (λr=>V.bl (dec (sS l rows r))) nq rfl (B4 hz) (λi G5 s5 hi=>⟨s5 _ _ hf0,by omega⟩) (λG5 s5=>⟨s5 _ _ hf0,by omega⟩) ?_ ?_⟩
   ·intro i y r G5 G5' s5 yy hdr P1 P0 p1 p0
    obtain⟨rfl,bb,pp,hpp,rfl,hbb⟩:=yy
    have ep:pp=(kyI r.1,V.int r.2):=by
     unfold kvR at hpp
     rw[ah,hdr]at hpp
     exact(bc hpp).symm
    rw[ep,hX]at hbb
    have hrm:=au hdr
    obtain⟨_,rne,_⟩:=hst.2 r.1 (ao.mpr ⟨r,hrm,rfl⟩)
    refine iX ?_
    exact⟨_,rfl,_,rfl,_,rfl,_,d,bb,l,rows,r,rfl,Da.same (n0.trans s5) hv,.inr ⟨o,s5 _ _ hf0⟩,hbb,ok,rne,hzs r hrm,kT hst.1 hrm,λG6 s6=>p1 G6 rfl s6⟩
   intro G5 s5 hq
   rw[kU]at hq
   have hf5:=s5 _ _ hf0
   refine⟨hf5,q,rows.map λr=>dec (sS l rows r),rfl,SqL.of ?_,?_⟩
   ·have hqd:q≠d:=λe=>by rw[e,hf5]at hq;cases hq
    rw[fK hqd,hq,bo];rfl
   have e:(rows.map λr=>dec (sS l rows r)).all id=dec (zX l tr rows):=by
    rw[bN,cx,mj]
    constructor
    ·exact λz=>⟨hst,by assumption,λr hr=>mj.mp (z _ (ao.mpr ⟨r,hr,rfl⟩))⟩
    ·rintro z b hb
     obtain⟨r,hr,rfl⟩:=ao.mp hb
     exact mj.mpr (z.2.2 r hr)
   rw[e]
   exact k _ (fL.upd (n0.trans s5) nd0)
theorem Ay (F:Fn K mg "is_shut" nO ["line","train","standings"] f fd)(gI:Fn K mg "are_numbers" iN ["line","train","rows"] f1 fd1)(i8:fV P w K mg base CX0 5 f1 fd1 ["line","train","rows"] (xC K)):
  fV P w K mg base CX0 6 f fd ["line","train","standings"] (Bd K):=by
 refine F.F.ok Al (λvs H Q E h=>?_) (λcdv A outer s H vs Q E hr h=>?_)
 ·obtain⟨v,u,x,l,tr,ss,rfl,_⟩:=h;rfl
 ·obtain⟨v,u,x,l,tr,ss,rfl,hv,hu,hx,ok,hz,hzs,hC,k⟩:=h
  obtain⟨a,us,rfl,hA,D⟩:=iE.mp hx
  have ul:us.length=ss.length:=by have:=Dgs.length D;rw[aa]at this;exact this
  refine⟨_,(fJ (fW (fP i8 (hr.mono (by decide)) rfl gI.m gI.F.kp gI.b .nil gv (fD (pv 0) (fD (pv 1) (fD (lJ (gq (pv 2)) rfl rN (.name (by decide)) (λ_ _ _ _=>(fO (i:=0) rN.nd rfl (Or.inl rfl))) (λ_ _ _ _=>g8) (λ_ _ _ _=>(gA (fD (pv 0) (fD fI fG))))) fG)))))),?_⟩
  refine⟨_,rfl,_,rfl,_,rfl,a,rfl,⟨_,hA⟩,λp np=>?_⟩
  refine rD (K:=K) ss.length ss (λst=>zL (st,0)) np rfl (B4 hz) (λi G s hi=>(gK hA).go i G s (by omega)) (λG s=>by have:=(gK hA).stop G s;rw[ul]at this;exact this) ?_ ?_
  ·intro i y r G G' sG ⟨vs',hl'⟩ yy hd P1 P0 kk
   obtain⟨rfl,hy⟩:=(gK hA).yld i G y G' sG (by have:=(af.mp hd).1;omega) yy
   obtain⟨st,ad,hst,rfl,hL⟩:=BE D hy
   rw[hd]at hst
   cases hst
   refine iX ?_
   refine⟨_,rfl,by show 2<=sizeLine;decide,λq nq=>kk _ _ (fF nq) ?_⟩
   have hqp:q≠p:=λe=>by rw[e,hl']at nq;cases nq
   refine ie.mpr ⟨q,_,rfl,SqT.of (by rw[gS hqp,fE]),Dgs.two (ij.mpr ⟨ad,rfl,(qT (sG.trans (fF nq)) np).seq hL⟩) (iB.mpr rfl)⟩
  intro vs1 H1 s1 h1 D1
  have D1':Das K H1 ((ss.map λst=>(st,(0:Int))).map zL) vs1:=by rw[bo];exact Das.same ja D1
  exact⟨_,_,_,l,tr,ss.map λst=>(st,0),rfl,Da.same s1 hv,Da.same s1 hu,iE.mpr ⟨p,vs1,rfl,SqL.of h1,D1'⟩,ok,by rw[aa];exact hz,λr hr=>by
   obtain⟨z,hz,rfl⟩:=ao.mp hr
   exact hzs z hz,by rw[bo,show((λx:List Int×Int=>x.1) ∘ λst=>(st,(0:Int)))=id from rfl,List.map_id];exact hC,λH2 s2=>k H2 (s1.trans s2)⟩
end
structure vH (H:Hp)(d:Addr)(es:List Ent):Prop where
 at_:H d=some (.dT (kvR (fY es)))
variable {es:List Ent}
theorem vH.same (h:vH H d es)(s:fL H H'):vH H' d es:=⟨s _ _ h.at_⟩
theorem vH.mem (h:vH H d es)(t:List Int):(jM (kvR (fY es)) (kyI t)).isSome=decide (t∈es.map (·.1)):=by
 rw[oC,<-ix]
 cases q:g6 (fY es) t with
 |none=>rw[aW (uW q)];rfl
 |some n=>rw[bB (ao.mpr ⟨_,jK q,rfl⟩)];rfl
theorem vH.val (h:vH H d es){t:List Int}(ht:t∈es.map (·.1)):∃ n,g6 (fY es) t=some n/\jM (kvR (fY es)) (kyI t)=some (.int n):=by
 obtain⟨n,hn⟩:=uX (rows:=fY es) (t:=t) (by rw[ix];exact ht)
 exact⟨n,hn,by rw[oC,hn];rfl⟩
variable {as:List Addr}
theorem Cw {t t':List Int}{k:Str×Int}{n:Int}(hs:vH H d es)(ho:yw H p as es)(hb:H b=some (.lst (t'.map V.int)))(bp:b≠p)(hn:t'∉es.map (·.1))(Pc:n=uT (fY es) (t',some (t,k))):
  vH (upd (upd H d (.dT (putK (kvR (fY es)) (kyI t') (.int n)))) p (.lst (as.map V.ref ++ [V.ref b]))) d (es ++ [(t',some (t,k))])/\
  yw (upd (upd H d (.dT (putK (kvR (fY es)) (kyI t') (.int n)))) p (.lst (as.map V.ref ++ [V.ref b]))) p (as ++ [b]) (es ++ [(t',some (t,k))]):=by
 have hd:=hs.at_
 have hp:=ho.at_
 have dp:d≠p:=gy hd hp (by intro z;cases z)
 have hv:jM (kvR (fY es)) (kyI t')=none:=by
  have:=hs.mem t'
  rw[aW hn]at this
  exact Option.isNone_iff_eq_none.mp (by rw[<-Option.not_isSome,this];rfl)
 have e1:putK (kvR (fY es)) (kyI t') (.int n)=kvR (fY (es ++ [(t',some (t,k))])):=by
  rw[oY _ hv,mJ,Pc]
  unfold kvR
  rw[av];rfl
 have hl:∀ c xs,c≠p->H c=some (.lst xs)->upd (upd H d (.dT (putK (kvR (fY es)) (kyI t') (.int n)))) p (.lst (as.map V.ref ++ [V.ref b])) c=some (.lst xs):=λc xs cp q=>by
  rw[fK cp,fK (gy q hd (by intro z;cases z))];exact q
 refine⟨⟨by rw[fK dp,fE,e1]⟩,⟨by rw[fE,av];rfl,by rw[ak,ak,ho.len];rfl,λi c e hc he=>?_⟩⟩
 by_cases hi:i<es.length
 ·rw[aq hi]at he
  rw[aq (by rw[ho.len];exact hi)]at hc
  obtain⟨z1,z2⟩:=ho.each i c e hc he
  exact⟨z1,hl c _ z1 z2⟩
 ·have hi2:i=es.length:=by
   have:=(af.mp he).1
   rw[ak,aP]at this
   omega
  rw[hi2,ay (ar _),bu]at he
  rw[hi2,<-ho.len,ay (ar _),bu]at hc
  cases he
  cases hc
  exact⟨bp,hl b _ bp hb⟩
theorem zJ {K:PySem.W.Frag}{H:Hp}{f:Ent->PyData} :∀ {as:List Addr}{es:List Ent},as.length=es.length->(∀ (j:Nat) b e,as[j]? = some b->es[j]? = some e->Da K H (f e) (.ref b))->Das K H (es.map f) (as.map V.ref)
 |[],[],_,_=>gN.mpr rfl
 |b::as,e::es,hl,h=>gm.mpr ⟨_,_,rfl,h 0 b e rfl rfl,zJ (by simpa using hl) λj b e hb he=>h (j+1) b e hb he⟩
 |[],_::_,hl,_=>by simp at hl
 |_::_,[],hl,_=>by simp at hl
noncomputable def DF (K:PySem.W.Frag):Sp:=λvs H Q _=>∃ (v:V) (u:Addr) (l:Ln) (ns:List Int),vs = [v,.ref u]/\Da K H (dL l) v/\H u=some (.lst (ns.map V.int))/\gj l/\ns≠ []/\ns.length<=6/\jf l ns/\
 ∀ (i:Nat) (t p q:Addr) (as:List Addr) (us:List V) (H':Hp),(fR l ns i).length=i->fL H H'->H' t=some (.tup [.ref p,.ref q])->H' p=some (.lst (as.map V.ref))->Das K H' (((fR l ns i).map (·.1)).map dI) (as.map V.ref)->H' q=some (.lst us)->Das K H' ((fY (fR l ns i)).map zL) us->Q (.ref t) H'
noncomputable def Ru (σ:L2.St)(_:Hp):Nat:=match (σ[4]? :Option (Option V))with
 |some (some (V.int i))=>(4096001-i).toNat
 |_=>0
noncomputable abbrev nN:Stmt:=top 56
theorem j7:gf ["_law_line","_law_train_here","_law_order","_law_numbers","_law_at","_law_move","_law_behind"] ["_law_line","_law_train_here"] (fM nN):=⟨rfl,rfl,rfl,by decide +kernel,rfl,by decide +kernel,by decide +kernel⟩
theorem rM:gF (fM nN) ["_law_line","_law_train_here","_law_order","_law_numbers","_law_at","_law_move","_law_behind"] {kind:=.function,names:=[(Str.ofString ".0",.local),(Str.ofString "_law_standing",.local),(Str.ofString "tuple",.globalImplicit),(Str.ofString "_law_numbers",.free)],isGenerator:=false,isCoroutine:=false,more:=[]} ["_law_standing","_law_numbers"] 1 [none,some 3]:=⟨rfl,by decide +kernel,by decide +kernel,by decide +kernel,rfl,by decide +kernel,rfl,by decide +kernel⟩
section
variable {P:Program}{w:World}{K:PySem.W.Frag}{mg:Str->Option Value}{base:Heap}{f:Addr}{fd:FuncData}
theorem Ax (F:Fn K mg "_law_web" nN ["_law_line","_law_train_here"] f fd)(B:Bm mg)(ki:Fn K mg "_law_moves" lH ["_law_line","_law_train_here"] f1 fd1)
  (pJ:fV P w K mg base CX0 2 f1 fd1 ["_law_line","_law_train_here"] (mF K)):fV P w K mg base CX0 3 f fd ["_law_line","_law_train_here"] (DF K):=by
 refine F.F.ok j7 (λvs H Q E h=>?_) (λcdv A outer s H vs Q E hr h=>?_)
 ·obtain⟨v,u,l,ns,rfl,_⟩:=h;rfl
 ·obtain⟨v,u,l,ns,rfl,hv,hu,ok,hne,hz,T,k⟩:=h
  refine⟨_,(fH (fS (i:=2) j7.nd rfl (Or.inl rfl) (gJ (fD (pv 1) fG)))
 (fH (fS (i:=3) j7.nd rfl (Or.inr rfl) (za (jE hr) (fX gD rfl B.tuple cb (fD (pv 1) fG)) fI))
 (fH (fS (i:=4) j7.nd rfl (Or.inl rfl) fI)
 (fH (nR aN (gC (wQ (pv 4) (gd gw rfl B.len cu (fD (pv 2) fG))))
 (fH (ir aN rfl (gq (fP pJ (hr.mono (by decide)) rfl ki.m ki.F.kp ki.b .nil gv (fD (pv 0) (fD (gY ig (pv 2) (pv 4) (λ_ _=>rfl)) fG)))) (iu (n:=2) rfl (fQ (fO (i:=5) j7.nd rfl (Or.inl rfl)) (fQ (fO (i:=6) j7.nd rfl (Or.inl rfl)) gQ)))
 (fJ (gR (gC (nU (jE hr) (fX gD rfl B.tuple cb (fD (pv 6) fG)) (pv 3)))
 (fH (xM (jE hr) (pv 3) (fX gD rfl B.tuple cb (fD (pv 6) fG)) (fT iS (ly (jE hr) (pv 3) (fX gD rfl B.tuple cb (fD (gY ig (pv 2) (pv 4) (λ_ _=>rfl)) fG)) (λ_ _=>rfl)) fI) rfl)
 (fJ (gX (kK aH bj bh iD (pv 2) (fD (pv 6) fG))))) fZ)))
 (fJ (fS (i:=4) j7.nd rfl (Or.inl rfl) (fT iS (pv 4) fI)))))
 (fJ (fW (gA (fD (pv 2) (fD (lJ (gq (pv 2)) rfl rM (.name (by decide)) (λ_ _ _ _=>(fO (i:=0) rM.nd rfl (Or.inl rfl))) (λ_ _ _ _=>g8) (λ_ _ _ _=>(gA (fD (pv 0) (fD (ly (jE hr) (pv 1) (fX (kD (K:=K) rfl) rfl B.tuple cb (fD (pv 0) fG)) (λ_ _=>rfl)) fG))))) fG))))))))),?_⟩
  refine⟨_,rfl,by show 1<=sizeLine;decide,λp np=>?_⟩
  have s1:=fF (o:=.lst [V.ref u]) np
  have hp1:=fE (H:=H) (a:=p) (o:=.lst [V.ref u])
  have hu1:=s1 _ _ hu
  have up:u≠p:=fN hu np
  generalize upd H p _=H1 at s1 hp1 hu1 ⊢
  refine λd nd=>⟨_,rfl,u,_,rfl,.inl ⟨SqL.of (fF nd _ _ hu1),λt0 nt0=>?_⟩⟩
  have nd0:=fL.free s1 nd
  have s2:=fF (o:=.dT []) nd
  have s3:=fF (o:=.tup (ns.map V.int)) nt0
  refine⟨_,_,t0,kyI ns,rfl,rfl,by rw[hX];exact fE,s3 _ _ fE,?_⟩
  have hp3:=s3 _ _ (s2 _ _ hp1)
  have hu3:=s3 _ _ (s2 _ _ hu1)
  have S3:=s1.trans (s2.trans s3)
  have dp:p≠d:=fN hp1 nd
  have du:u≠d:=fN hu1 nd
  have S4:fL H (upd (upd (upd H1 d (.dT [])) t0 (.tup (ns.map V.int))) d (.dT [(kyI ns,V.int 0)])):=fL.upd S3 nd0
  have hp4:(upd (upd (upd H1 d (.dT [])) t0 (.tup (ns.map V.int))) d (.dT [(kyI ns,V.int 0)])) p=some (.lst [V.ref u]):=by rw[fK dp];exact hp3
  have hu4:(upd (upd (upd H1 d (.dT [])) t0 (.tup (ns.map V.int))) d (.dT [(kyI ns,V.int 0)])) u=some (.lst (ns.map V.int)):=by rw[fK du];exact hu3
  have hd4:=fE (H:=upd (upd H1 d (.dT [])) t0 (.tup (ns.map V.int))) (a:=d) (o:=.dT [(kyI ns,V.int 0)])
  generalize upd (upd (upd H1 d (.dT [])) t0 (.tup (ns.map V.int))) d (.dT [(kyI ns,V.int 0)])=H4 at S4 hp4 hu4 hd4 ⊢
  refine yB (λσ H4=>∃ (i:Nat) (as:List Addr) (x5 x6:Option V),σ = [some v,some (.ref u),some (.ref p),some (.ref d),some (.int i),x5,x6]/\fL H H4/\vH H4 d (fR l ns i)/\yw H4 p as (fR l ns i)/\i<=(fR l ns i).length)
   Ru ⟨0,[u],none,none,rfl,S4,⟨hd4⟩,⟨hp4,rfl,λi b e hb he=>?_⟩,aI _⟩ ?_ ?_
  ·match i,hb,he with
   | 0,hb,he=>cases hb;cases he;exact⟨up,hu4⟩
  ·rintro σ H4 ⟨i,as,x5,x6,rfl,S4,hs4,ho4,hi⟩
   have E4:=j6 ok T hne i
   have b4:=E4.len ok hz
   refine⟨_,rfl,_,rfl,p,_,rfl,.inl (SqL.of ho4.at_),_,_,rfl,rfl,_,rfl,ip (λhlt=>?_) (λhlt=>?_)⟩
   ·have hlt:(i:Int)<((as.map V.ref).length:Int):=by simpa using hlt
    rw[aa,ho4.len]at hlt
    have hi2:i<(fR l ns i).length:=by omega
    have he:(fR l ns i)[i]? = some ((fR l ns i)[i]):=by simp
    generalize (fR l ns i)[i]=e at he
    obtain⟨b,hb,bp,hbt⟩:=ho4.get he
    obtain⟨T1,T2,T3⟩:=E4.tr e (au he)
    have em:e.1∈(fR l ns i).map (·.1):=ao.mpr ⟨e,au he,rfl⟩
    refine⟨_,rfl,_,rfl,_,rfl,p,_,_,_,rfl,rfl,SqL.of ho4.at_,yr (v:=V.ref b) (by omega) (by rw[ah,show((i:Int)).toNat=i by omega,hb];rfl),_,_,l,e.1,rfl,Da.same S4 hv,jc hbt,ok,T3,by omega,λpm vm H6 s6 hpm zw Dm=>?_⟩
    have S6:=S4.trans s6
    have hs6:=hs4.same s6
    have ho6:=ho4.same s6
    have Ez:(mvs l e.1).length=vm.length:=by have:=Dm.length;rw[aa]at this;exact this.symm
    have pmp:pm≠p:=bI (fN ho4.at_ hpm)
    have pmd:pm≠d:=bI (fN hs4.at_ hpm)
    have b7:∀ j,(gW e.1 ((mvs l e.1).take j) (fR l ns i)).length<=4096000:=λj=>by
     have h1:=(oT (t:=e.1) (mvs l e.1) (fR l ns i) j).length_le
     rw[<-nK he]at h1
     have h2:=(j6 ok T hne (i+1)).len ok hz
     omega
    refine⟨pm,rfl,⟨_,SqL.of zw⟩,pk (K:=K) (a:=pm) (xs:=vm) (λj σ H7=>∃ (as':List Addr) (x5 x6:Option V),σ = [some v,some (.ref u),some (.ref p),some (.ref d),some (.int i),x5,x6]/\
      fL H H7/\fL (zz d p H6) H7/\vH H7 d (gW e.1 ((mvs l e.1).take j) (fR l ns i))/\yw H7 p as' (gW e.1 ((mvs l e.1).take j) (fR l ns i)))
     ⟨as,x5,x6,rfl,S6,λb u h=>ja (p:=d) b u (ja (p:=p) b u h),hs6,ho6⟩ (λj σ H7 _ ⟨_,_,_,_,_,sm,_⟩=>SqL.of (sm _ _ (by rw[ni pmd pmp];exact zw))) ?_ ?_⟩
    ·rintro j y σ H7 hj ⟨as',y5,y6,rfl,S7,sm,hs7,ho7⟩
     obtain⟨m,ad,p1,bb,hm,rfl,ht,dm,hbb,nbb,_⟩:=BC Dm hj
     have bbp:bb≠p:=bI (fN ho4.at_ nbb)
     have bbd:bb≠d:=bI (fN hs4.at_ nbb)
     have ht7:=gx sm (vk hs6.at_ ho6.at_ ht)
     have CU:H7 bb=some (.lst (m.2.map V.int)):=sm _ _ (by rw[ni bbd bbp];exact hbb)
     have b7j:=b7 j
     refine⟨ad,_,rfl,ht7,rfl,_,_,rfl,_,_,rfl,rfl,?_⟩
     refine⟨_,rfl,bb,_,rfl,.inl ⟨SqL.of CU,λst nst=>?_⟩⟩
     have s8:=fF (o:=.tup (m.2.map V.int)) nst
     have hst:=fE (H:=H7) (a:=st) (o:=.tup (m.2.map V.int))
     have hs8:=hs7.same s8
     have ho8:=ho7.same s8
     have S8:=S7.trans s8
     have sm8:=sm.trans s8
     have KN:=s8 _ _ CU
     generalize upd H7 st _=H8 at s8 hst hs8 ho8 S8 sm8 KN ⊢
     refine⟨_,rfl,d,_,rfl,oK.t (k:=kyI m.2) hs8.at_ (by rw[hX];exact hst),_,rfl,?_⟩
     rw[hs8.mem m.2]
     have oS:gW e.1 ((mvs l e.1).take (j+1)) (fR l ns i)=nF e.1 (gW e.1 ((mvs l e.1).take j) (fR l ns i)) m:=uq hm
     have pre:fR l ns i <+:gW e.1 ((mvs l e.1).take j) (fR l ns i):=pQ _ _ _
     refine ip (λhn=>?_) (λhn=>?_)
     ·have hn:m.2∉(gW e.1 ((mvs l e.1).take j) (fR l ns i)).map (·.1):=by simpa using hn
      have nL:gW e.1 ((mvs l e.1).take (j+1)) (fR l ns i)=gW e.1 ((mvs l e.1).take j) (fR l ns i) ++ [(m.2,some (e.1,m.1))]:=by
       rw[oS];unfold nF;rw[aG hn]
      have he7:(gW e.1 ((mvs l e.1).take j) (fR l ns i))[i]? = some e:=by
       obtain⟨r,hr⟩:=pre
       rw[<-hr,aq hi2];exact he
      have em7:e.1∈(gW e.1 ((mvs l e.1).take j) (fR l ns i)).map (·.1):=ao.mpr ⟨e,au he7,rfl⟩
      generalize gW e.1 ((mvs l e.1).take j) (fR l ns i)=es at *
      obtain⟨b2,g1,g2,g3⟩:=ho8.get he7
      refine⟨_,rfl,_,rfl,_,rfl,p,_,_,_,rfl,rfl,SqL.of ho8.at_,yr (v:=V.ref b2) (by omega) (by rw[ah,show((i:Int)).toNat=i by omega,g1];rfl),b2,_,rfl,.inl ⟨SqL.of g3,λst2 Oh=>?_⟩⟩
      have s9:=fF (o:=.tup (e.1.map V.int)) Oh
      have Kq:=fE (H:=H8) (a:=st2) (o:=.tup (e.1.map V.int))
      have hs9:=hs8.same s9
      have ho9:=ho8.same s9
      have S9:=S8.trans s9
      have sm9:=sm8.trans s9
      have IU:=s9 _ _ KN
      generalize upd H8 st2 _=H9 at s9 Kq hs9 ho9 S9 sm9 IU ⊢
      obtain⟨n,hl9,hn9⟩:=hs9.val em7
      refine⟨d,.int n,rfl,by rw[<-hn9];exact oK.t (k:=kyI e.1) hs9.at_ (by rw[hX];exact Kq),_,_,rfl,rfl,_,rfl,_,rfl,bb,_,rfl,.inl ⟨SqL.of IU,λst3 Og=>?_⟩⟩
      have s10:=fF (o:=.tup (m.2.map V.int)) Og
      have Kp:=fE (H:=H9) (a:=st3) (o:=.tup (m.2.map V.int))
      have Gw:=hs9.same s10
      have ET:=ho9.same s10
      have S10:=S9.trans s10
      have JI:=sm9.trans s10
      have Hf:=s10 _ _ IU
      generalize upd H9 st3 _=H10 at s10 Kp Gw ET S10 JI Hf ⊢
      have dl:(kvR (fY es)).length<=4096000:=by unfold kvR;rw[aa,jw];omega
      refine⟨d,_,rfl,A8.t (k:=kyI m.2) Gw.at_ (by rw[hX];exact Kp) (j4 (by omega)),?_⟩
      obtain⟨q1,q2⟩:=Cw (t:=e.1) (k:=m.1) (n:=n+1) Gw ET Hf bbp hn (by show n+1=(g6 (fY es) e.1).getD 0+1;rw[hl9];rfl)
      have pd:p≠d:=gy ET.at_ Gw.at_ (by intro z;cases z)
      have Kt:upd H10 d (.dT (putK (kvR (fY es)) (kyI m.2) (.int (n+1)))) p=some (.lst (as'.map V.ref)):=by rw[fK pd];exact ET.at_
      refine⟨_,rfl,.inl ⟨rfl,_,SqL.of Kt⟩,_,rfl,p,_,_,rfl,rfl,Kt,j4 (by rw[aa,ET.len];omega),?_⟩
      exact⟨as' ++ [bb],_,_,rfl,fL.upd (fL.upd S10 nd0) np,vj JI,by rw[nL];exact q1,by rw[nL];exact q2⟩
     ·have hn:m.2∈(gW e.1 ((mvs l e.1).take j) (fR l ns i)).map (·.1):=by simpa using hn
      have sO:gW e.1 ((mvs l e.1).take (j+1)) (fR l ns i)=gW e.1 ((mvs l e.1).take j) (fR l ns i):=by
       rw[oS];unfold nF;rw[aQ hn]
      exact⟨as',_,_,rfl,S8,sm8,by rw[sO];exact hs8,by rw[sO];exact ho8⟩
    ·rintro σ H7 ⟨as',y5,y6,rfl,S7,sm,hs7,ho7⟩
     rw[<-Ez,aX,<-nK he]at hs7 ho7
     have zu:=(pN l ns i).length_le
     refine⟨_,rfl,_,_,rfl,rfl,⟨i+1,as',_,_,rfl,S7,hs7,ho7,by omega⟩,?_⟩
     show(4096001-((i:Int)+1)).toNat<(4096001-(i:Int)).toNat
     omega
   ·have hlt:¬(i:Int)<((as.map V.ref).length:Int):=by simpa using hlt
    rw[aa,ho4.len]at hlt
    have e1:(fR l ns i).length=i:=by omega
    have hA:SqL K H4 p (as.map V.ref):=SqL.of ho4.at_
    refine⟨_,rfl,_,rfl,p,rfl,⟨_,hA⟩,λq nq=>?_⟩
    refine rD (K:=K) i (fY (fR l ns i)) zL nq (by rw[jw];exact e1.symm) (j4 (by omega)) (λj G s hj=>(gK hA).go j G s (by rw[aa,ho4.len];omega)) (λG s=>by have:=(gK hA).stop G s;rw[aa,ho4.len,e1]at this;exact this) ?_ ?_
    ·intro j y r G G' sG ⟨vs',hl'⟩ yy hd P1 P0 kk
     have hj:j<(fR l ns i).length:=by have:=(af.mp hd).1;rw[jw]at this;exact this
     obtain⟨rfl,hy⟩:=(gK hA).yld j G y G' sG (by rw[aa,ho4.len];exact hj) yy
     have he:(fR l ns i)[j]? = some ((fR l ns i)[j]):=by simp
     generalize (fR l ns i)[j]=e at he
     obtain⟨b,hb1,bp,hbt⟩:=ho4.get he
     rw[ah,hb1]at hy
     cases hy
     have re:r.1=e.1:=by
      have h1:((fY (fR l ns i)).map (·.1))[j]? = some r.1:=by rw[ah,hd];rfl
      rw[ix,ah,he]at h1
      exact(bc h1).symm
     refine iX ?_
     refine⟨_,rfl,_,rfl,_,rfl,b,_,rfl,.inl ⟨SqL.of (sG _ _ hbt),λtp ntp=>?_⟩⟩
     have sb:=fF (o:=.tup (e.1.map V.int)) ntp
     have htp:=fE (H:=G') (a:=tp) (o:=.tup (e.1.map V.int))
     have hs5:=hs4.same (sG.trans sb)
     have hb5:=(sG.trans sb) _ _ hbt
     have hl5:=sb _ _ hl'
     generalize upd G' tp _=G5 at sb htp hs5 hb5 hl5 ⊢
     have nd5:((fY (fR l ns i)).map (·.1)).Nodup:=by rw[ix];exact E4.nd
     have lk:=kT nd5 (au hd)
     refine⟨d,.int r.2,rfl,by have:=oK.t (k:=kyI e.1) hs5.at_ (by rw[hX];exact htp);rw[oC,<-re,lk]at this;exact this,by show 2<=sizeLine;decide,λw nw=>kk _ _ (sb.trans (fF nw)) ?_⟩
     have hwq:w≠q:=λz=>by rw[z,hl5]at nw;cases nw
     have hbq:b≠q:=fN hbt nq
     refine ie.mpr ⟨w,_,rfl,SqT.of (by rw[gS hwq,fE]),Dgs.two (ij.mpr ⟨b,rfl,SqL.of (by rw[gS hbq,re];exact fF nw _ _ hb5)⟩) (iB.mpr rfl)⟩
    intro vs1 H5 s5 h5 D5
    refine⟨by show 2<=sizeLine;decide,λt nt=>?_⟩
    have st:=fF (o:=.tup [.ref p,.ref q]) nt
    have S6:=s5.trans st
    refine k i t p q as vs1 _ e1 (S4.trans S6) fE (S6 _ _ ho4.at_) ?_ (st _ _ h5) (Das.same (ja.trans st) D5)
    rw[bo]
    have ho6:=ho4.same S6
    refine zJ ho6.len λj b e hb he=>jc (ho6.each j b e hb he).2
  ·rintro σ H Q Q' hq ⟨x,e1,y,e2,p',ys,e3,h4,i',j',e5,e6,c,e7,q⟩
   exact⟨x,e1,y,e2,p',ys,e3,h4,i',j',e5,e6,c,e7,hq _ _ q⟩
end
noncomputable def yK (K:PySem.W.Frag)(c2 c5:Addr):Sp:=λvs H Q E=>∃ (v u:V) (l:Ln) (ns:List Int),vs = [v,u]/\Da K H (dL l) v/\Da K H (dI ns) u/\gj l/\ns≠ []/\ns.length<=900/\jf l ns/\zZ K c2 c5 l ns (ns.reverse.map oth) H Q E
theorem zZ.pre {c2 c5:Addr}{l:Ln}{ns gs:List Int}{H2:Hp}{Q:VK}{E:XK}(s2:fL H H2)(k:zZ K c2 c5 l ns gs H Q E):zZ K c2 c5 l ns gs H2 Q E:=
 ⟨λz H' s=>k.bad z H' (s2.trans s),λz i H' s=>k.many z i H' (s2.trans s),λg i hi h3 hn r q bs H' F hr nr=>k.no g i hi h3 hn r q bs H' (F.pre s2) hr (fL.free s2 nr),
  λg i hi h3 hn r q1 run q2 us H' s R n1 PT RN hne hr nr=>k.yes g i hi h3 hn r q1 run q2 us H' (s2.trans s) R (fL.free s2 n1) PT (RN.pre s2) hne hr (fL.free s2 nr)⟩
noncomputable def Bj (K:PySem.W.Frag)(C:Addr):Sp:=λvs H Q E=>∃ (v u:V) (l:Ln) (ns:List Int),vs = [v,u]/\Da K H (dL l) v/\Da K H (dI ns) u/\gj l/\ns≠ []/\ns.length<=900/\jf l ns/\
 (∀ i q bs H',(fR l ns i).length=i->i<=300->og H H' q bs ((fR l ns i).map (·.1))->Q (.ref q) H')/\((∃ i,300<(fR l ns i).length)->∀ H',fL H H'->∀ e,H' e=none->E (.ref C) (some e) H')
noncomputable abbrev xH:Stmt:=top 42
theorem FZ:gf ["line","train"] ["line","train"] (fM xH):=⟨rfl,rfl,rfl,by decide +kernel,rfl,by decide +kernel,by decide +kernel⟩
noncomputable abbrev pT:Stmt:=top 24
theorem Am:gf ["line","train"] ["line","train"] (fM pT):=⟨rfl,rfl,rfl,by decide +kernel,rfl,by decide +kernel,by decide +kernel⟩
section
variable {P:Program}{w:World}{K:PySem.W.Frag}{mg:Str->Option Value}{base:Heap}{f:Addr}{fd:FuncData}{c2 c4 c5:Addr}
theorem Eh (F:Fn K mg "turn" xH ["line","train"] f fd)(B:Bm mg)
  (kF:Fn K mg "least" qU ["line","train","goal"] f1 fd1) (qc:fV P w K mg base (CXr P w base) 5 f1 fd1 ["line","train","goal"] (ug K c2 c5))
  (mZ:Fn K mg "turned" oW ["train"] f2 fd2) (gi:Fn K mg "other_end" jI ["end"] f3 fd3):fV P w K mg base (CXr P w base) 6 f fd ["line","train"] (yK K c2 c5):=by
 have Aa:fV P w K mg base CX0 2 f2 fd2 ["train"] (yN K):=wU mZ B.toBl gi
 refine F.F.okX FZ (λvs H Q E h=>?_) (λcdv A outer s H vs Q E hr h=>?_)
 ·obtain⟨v,u,l,ns,rfl,_⟩:=h;rfl
 ·obtain⟨v,u,l,ns,rfl,hv,hu,ok,hne,GA,T,k⟩:=h
  refine⟨_,(fJ (fW (fP qc (hr.mono (by decide)) rfl kF.m kF.F.kp kF.b .nil kQ (fD (pv 0) (fD (pv 1) (fD (fP Aa (hr.mono (by decide)) rfl mZ.m mZ.F.kp mZ.b .nil gv (fD (pv 1) fG)) fG)))))),?_⟩
  refine⟨_,rfl,_,rfl,_,rfl,_,ns,rfl,hu,by omega,λr H2 s2 nr hr2=>?_⟩
  exact⟨_,_,_,l,ns,_,rfl,Da.same s2 hv,Da.same s2 hu,jc hr2,ok,hne,GA,T,by rw[aa,cR];exact GA,k.pre s2⟩
theorem AB (F:Fn K mg "come_to" pT ["line","train"] f fd)(B:Bm mg)(gz:Fn K mg "first_steps" ju ["line","train"] f1 fd1)(iA:fV P w K mg base (CXr P w base) 4 f1 fd1 ["line","train"] (qO K c5))
  (gP:Fn K mg "lists_of" jJ ["standings"] f2 fd2):fV P w K mg base (CXr P w base) 5 f fd ["line","train"] (Bj K c5):=by
 have mW:fV P w K mg base CX0 1 f2 fd2 ["standings"] (qw K):=sV gP B
 refine F.F.okX Am (λvs H Q E h=>?_) (λcdv A outer s H vs Q E hr h=>?_)
 ·obtain⟨v,u,l,ns,rfl,_⟩:=h;rfl
 ·obtain⟨v,u,l,ns,rfl,hv,hu,ok,hne,hz,T,k,ke⟩:=h
  refine⟨_,(fJ (fW (fP mW (hr.mono (by decide)) rfl gP.m gP.F.kp gP.b .nil gv (fD (fP iA (hr.mono (by decide)) rfl gz.m gz.F.kp gz.b .nil kQ (fD (pv 0) (fD (pv 1) fG))) fG)))),?_⟩
  refine⟨_,rfl,_,rfl,_,_,l,ns,rfl,hv,hu,ok,hne,hz,T,λi d us H2 hi zr s2 nd hs2=>?_,ke⟩
  exact⟨d,_,us,rfl,hs2,by omega,λq bs H3 FR=>k i q bs H3 hi zr (FR.pre s2)⟩
end
structure LsW (H0 H:Hp)(q:Addr)(as:List Addr)(ts:List (List Int)):Prop where
 at_:H q=some (.lst (as.map V.ref))
 len:as.length=ts.length
 each:∀ (i:Nat) a t,as[i]? = some a->ts[i]? = some t->H0 a=none/\a≠q/\H a=some (.lst (t.map V.int))
theorem LsW.same {H0:Hp}{q:Addr}(h:LsW H0 H q as ts)(s:fL H H'):LsW H0 H' q as ts:=
 ⟨s _ _ h.at_,h.len,λi a t h1 h2=>⟨(h.each i a t h1 h2).1,(h.each i a t h1 h2).2.1,s _ _ (h.each i a t h1 h2).2.2⟩⟩
noncomputable def kI:Int->List Int->List (List Int)
 |_,[]=>[]
 |m,w::r=>ou m w.toNat::kI (m+w) r
noncomputable def DL (o:Int)(x:Int):Int×Int:=(min (2*o+1) (2*x),max (2*o+1) (2*x))
noncomputable def qm (pp:List (List Int))(k:Nat):List (Int×Int):=(pp.getD k []).flatMap λo=>(pp.getD ((k+1)%pp.length) []).map (DL o)
noncomputable def lT (pp:List (List Int)):List (Int×Int):=(List.range pp.length).flatMap (qm pp)
theorem xQ:∀ (ws:List Int) (m:Int),(kI m ws).length=ws.length
 |[],_=>rfl
 |w::r,m=>by show(kI (m+w) r).length+1=_;rw[xQ r];rfl
theorem zc:∀ (ws:List Int) (m w:Int),kI m (ws ++ [w])=kI m ws ++ [ou (m+ws.sum) w.toNat]
 |[],m,w=>by show[ou m w.toNat] = [ou (m+0) w.toNat];rw[Int.add_zero]
 |x::r,m,w=>by
  show ou m x.toNat::kI (m+x) (r ++ [w])=ou m x.toNat::(kI (m+x) r ++ [ou (m+(x::r).sum) w.toNat])
  rw[zc r,List.sum_cons,Int.add_assoc]
theorem wN:∀ {ws:List Int}{m:Int},(∀ w∈ws,0<=w/\w<=9)->∀ p∈kI m ws,p.length<=9
 |[],_,_,p,hp=>by cases hp
 |w::r,m,h,p,hp=>by
  rcases aE.mp hp with e |q
  ·rw[e,qX];have:=h w aC;omega
  ·exact wN (λx hx=>h x (aw _ hx)) p q
noncomputable def yM (K:PySem.W.Frag):Sp:=λvs H Q _=>∃ (a:Addr) (ws:List Int),vs = [.ref a]/\SqL K H a (ws.map V.int)/\ws≠ []/\ws.length<=9/\(∀ w∈ws,0<=w/\w<=9)/\∀ p t us H',fL H H'->H t=none->H' p=some (.tup [.int ws.sum,.ref t])->H' t=some (.lst us)->Ps K H' (lT (kI 0 ws)) us->Q (.ref p) H'
structure PcW (H:Hp)(t ps:Addr)(as:List Addr)(pp:List (List Int)):Prop where
 ne:ps≠t
 at_:H ps=some (.lst (as.map V.ref))
 len:as.length=pp.length
 each:∀ (i:Nat) a p,as[i]? = some a->pp[i]? = some p->a≠t/\H a=some (.lst (p.map V.int))
theorem PcW.same {t ps:Addr}{pp:List (List Int)}(h:PcW H t ps as pp)(s:fL H H'):PcW H' t ps as pp:=
 ⟨h.ne,s _ _ h.at_,h.len,λi a p h1 h2=>⟨(h.each i a p h1 h2).1,s _ _ (h.each i a p h1 h2).2⟩⟩
theorem PcW.upd {t ps:Addr}{pp:List (List Int)}{o:HO}(h:PcW H t ps as pp):PcW (L2.upd H t o) t ps as pp:=
 ⟨h.ne,by rw[fK h.ne];exact h.at_,h.len,λi a p h1 h2=>⟨(h.each i a p h1 h2).1,by rw[fK (h.each i a p h1 h2).1];exact(h.each i a p h1 h2).2⟩⟩
theorem PcW.get {t ps:Addr}{pp:List (List Int)}(h:PcW H t ps as pp){i:Nat}(hi:i<pp.length):∃ a,as[i]? = some a/\pp[i]? = some (pp.getD i [])/\H a=some (.lst ((pp.getD i []).map V.int)):=by
 have hi':i<as.length:=by rw[h.len];exact hi
 have h1:as[i]? = some as[i]:=ag hi'
 have h2:pp[i]? = some (pp.getD i []):=by rw[aF,ag hi];rfl
 exact⟨_,h1,h2,(h.each i _ _ h1 h2).2⟩
noncomputable abbrev m8:Stmt:=top 53
theorem iz:gf ["_law_rungs_here","_law_pieces","_law_many","_law_wide","_law_joints","_law_k","_law_some","_law_one","_law_other_here"] ["_law_rungs_here"] (fM m8):=⟨rfl,rfl,rfl,by decide +kernel,rfl,by decide +kernel,by decide +kernel⟩
section
variable {P:Program}{w:World}{K:PySem.W.Frag}{mg:Str->Option Value}{base:Heap}{f:Addr}{fd:FuncData}
theorem xU (F:Fn K mg "_law_rungs" m8 ["_law_rungs_here"] f fd)(B:Bm mg):fV P w K mg base CX0 1 f fd ["_law_rungs_here"] (yM K):=by
 refine F.F.ok iz (λvs H Q E h=>?_) (λcdv A outer s H vs Q E hr h=>?_)
 ·obtain⟨a,ws,rfl,_⟩:=h;rfl
 ·obtain⟨a,ws,rfl,ha,wne,w9,wb,k⟩:=h
  refine⟨_,(fH (fS (i:=1) iz.nd rfl (Or.inl rfl) (gJ fG))
 (fH (fS (i:=2) iz.nd rfl (Or.inl rfl) fI)
 (fH (ir aN rfl (gq (pv 0)) (fO (i:=3) iz.nd rfl (Or.inl rfl))
 (fH (gX (kK aH bj bh iD (pv 1) (fD (fX (vY rfl) rfl B.list de (fD (fX Dh rfl B.range boot_range (fD (pv 2) (fD (fT iS (pv 2) (pv 3)) fG))) fG)) fG)))
 (fJ (fS (i:=2) iz.nd rfl (Or.inl rfl) (fT iS (pv 2) (pv 3))))))
 (fH (fS (i:=4) iz.nd rfl (Or.inl rfl) (gJ fG))
 (fH (ir aN rfl (Bw rfl B.enumerate (fD (pv 1) fG)) (iu (n:=2) rfl (fQ (fO (i:=5) iz.nd rfl (Or.inl rfl)) (fQ (fO (i:=6) iz.nd rfl (Or.inl rfl)) gQ)))
 (fJ (ir aN rfl (gq (pv 6)) (fO (i:=7) iz.nd rfl (Or.inl rfl))
 (fJ (ir aN rfl (gq (gY ig (pv 1) (fT i6 (fT iS (pv 5) fI) (gd gw rfl B.len cu (fD (pv 1) fG))) (λ_ _=>rfl))) (fO (i:=8) iz.nd rfl (Or.inl rfl))
 (fJ (gX (kK aH bj bh iD (pv 4) (fD (gA (fD (gd (xj rfl) rfl B.min boot_min (fD (fT iS (fT kb fI (pv 7)) fI) (fD (fT kb fI (pv 8)) fG))) (fD (gd (xk rfl) rfl B.max boot_max (fD (fT iS (fT kb fI (pv 7)) fI) (fD (fT kb fI (pv 8)) fG))) fG))) fG)))))))))
 (fJ (fW (gA (fD (pv 2) (fD (pv 4) fG)))))))))),?_⟩
  refine⟨aI _,λps nps=>?_⟩
  have s1:=fF (o:=.lst []) nps
  have hps:=fE (H:=H) (a:=ps) (o:=.lst [])
  generalize upd H ps _=H1 at s1 hps ⊢
  dsimp only[oN]
  refine⟨_,rfl,a,rfl,⟨_,s1.seq ha⟩,iP (K:=K) (a:=a) (xs:=ws.map V.int) (λi σ G=>∃ (as:List Addr) (x3:Option V),σ = [some (.ref a),some (.ref ps),some (.int ((ws.take i).sum)),x3,none,none,none,none,none]/\fL H G/\LsW H G ps as (kI 0 (ws.take i)))
   ⟨[],none,rfl,s1,⟨hps,rfl,λi b t h=>by simp at h⟩⟩ (λi σ G _ ⟨_,_,_,s,_⟩=>s.seq ha) ?_ ?_⟩
  ·rintro i y σ G N R Bq kN _ hi ⟨as,x3,rfl,S,L⟩
   rw[ah]at hi
   cases q:ws[i]? with
   |none=>rw[q]at hi;cases hi
   |some x=>
    rw[q]at hi
    cases hi
    have xb:=wb x (au q)
    have il:i<ws.length:=(af.mp q).1
    have tk:ws.take (i+1)=ws.take i ++ [x]:=by rw[aV,q];rfl
    have sb:∀ (r:List Int),(∀ w∈r,0<=w/\w<=9)->0<=r.sum/\r.sum<=9*r.length:=by
     intro r
     induction r with
     |nil=>intro _;simp
     |cons z r ih=>
      intro hz
      have h1:=ih λw hw=>hz w (aw _ hw)
      have h2:=hz z aC
      rw[List.sum_cons,aO]
      omega
    have sm:=sb (ws.take i) λw hw=>wb w (dB hw)
    rw[aM]at sm
    have hl:=L.at_
    refine⟨_,rfl,.inl ⟨rfl,_,SqL.of hl⟩,_,rfl,_,rfl,_,rfl,_,_,rfl,rfl,_,_,rfl,λrg nrg=>?_⟩
    have s2:=fF (o:=.rng ((ws.take i).sum) ((ws.take i).sum+x)) nrg
    refine⟨rg,_,_,rfl,fE,by omega,by omega,by omega,by omega,λp np=>?_⟩
    rw[show(ws.take i).sum+x-(ws.take i).sum=x by omega]
    have s3:=s2.trans (fF (o:=.lst ((ou ((ws.take i).sum) x.toNat).map V.int)) np)
    have hp:=fE (H:=upd G rg (.rng ((ws.take i).sum) ((ws.take i).sum+x))) (a:=p) (o:=.lst ((ou ((ws.take i).sum) x.toNat).map V.int))
    have npG:G p=none:=fL.free s2 np
    generalize upd (upd G rg _) p _=G2 at s3 hp ⊢
    have L2':=L.same s3
    refine⟨ps,_,_,rfl,rfl,L2'.at_,jC (by rw[aa,L.len,xQ,aM];omega),?_⟩
    have pps:p≠ps:=(fN hl npG).symm
    refine⟨_,rfl,_,rfl,_,_,rfl,rfl,kN _ _ ⟨as ++ [p],some (.int x),?_,fL.upd (S.trans s3) nps,?_⟩⟩
    ·rw[tk,List.sum_append,List.sum_singleton];rfl
    ·rw[tk,zc,Int.zero_add]
     refine⟨by rw[fE,av];rfl,by rw[ak,ak,L.len];rfl,λj b t h1 h2=>?_⟩
     by_cases c:j<as.length
     ·rw[aq c]at h1
      rw[aq (by rw[<-L.len];exact c)]at h2
      obtain⟨a1,a2,a3⟩:=L2'.each j b t h1 h2
      exact⟨a1,a2,by rw[fK a2];exact a3⟩
     ·rw[ay (by omega)]at h1
      rw[ay (by rw[<-L.len];omega),<-L.len]at h2
      cases hd:j-as.length with
      |zero=>
       rw[hd]at h1 h2
       cases h1
       cases h2
       exact⟨fL.free S npG,pps,by rw[fK pps];exact hp⟩
      |succ n=>rw[hd]at h1;simp at h1
  rintro σ G ⟨as,x3,rfl,S,L⟩
  rw[aa,aX]at L ⊢
  have pl:(kI 0 ws).length=ws.length:=xQ ws 0
  have pb:=wN (m:=0) wb
  have pp1:1<=(kI 0 ws).length:=by rw[pl];cases ws with |nil=>exact absurd rfl wne |cons x r=>simp
  generalize hpp:kI 0 ws=pp at L pl pb pp1 k
  refine⟨aI _,λt nt=>?_⟩
  have s2:=fF (o:=.lst []) nt
  have ht:=fE (H:=G) (a:=t) (o:=.lst [])
  have W0:PcW (upd G t (.lst [])) t ps as pp:=⟨fN L.at_ nt,s2 _ _ L.at_,L.len,λi a p h1 h2=>⟨fN (L.each i a p h1 h2).2.2 nt,s2 _ _ (L.each i a p h1 h2).2.2⟩⟩
  have S2:=S.trans s2
  have nt0:=fL.free S nt
  generalize upd G t _=G1 at s2 ht W0 S2 ⊢
  have pbd:∀ i,(pp.getD i []).length<=9:=λi=>by
   rw[aF]
   cases q:pp[i]? with
   |none=>simp
   |some x=>exact pb x (au q)
  refine⟨_,rfl,ps,rfl,⟨_,SqL.of W0.at_⟩,xf (K:=K) (a:=ps) (xs:=as.map V.ref) (λi σ G=>∃ (us:List V) (x3 x5 x6 x7 x8:Option V),σ = [some (.ref a),some (.ref ps),some (.int ws.sum),x3,some (.ref t),x5,x6,x7,x8]/\fL H G/\PcW G t ps as pp/\G t=some (.lst us)/\Ps K G ((List.range i).flatMap (qm pp)) us/\((List.range i).flatMap (qm pp)).length<=100*i)
   ⟨[],x3,none,none,none,none,rfl,S2,W0,ht,gN.mpr rfl,ar _⟩ (λi σ G _ ⟨_,_,_,_,_,_,_,_,h,_⟩=>SqL.of h.at_) ?_ ?_⟩
  ·rintro i y σ G p N R Bq kN _ hi ⟨us,x3,x5,x6,x7,x8,rfl,S,W,ht,D,jl⟩ np
   have il:i<pp.length:=by
    have:=(af.mp hi).1
    rw[aa,W.len]at this
    exact this
   obtain⟨ai,h1,h2,h3⟩:=W.get il
   rw[ah,h1]at hi
   cases hi
   have s3:=fF (o:=.tup [.int (i:Int),.ref ai]) np
   have hp:=fE (H:=G) (a:=p) (o:=.tup [.int (i:Int),.ref ai])
   have W:=W.same s3
   have ht:=s3 _ _ ht
   have D:=D.same s3
   have h3:=s3 _ _ h3
   have S:=S.trans s3
   generalize upd G p _=G2 at s3 hp W ht D h3 S ⊢
   refine⟨p,_,rfl,SqT.of hp,rfl,_,_,rfl,_,_,rfl,rfl,?_⟩
   have mi:(i+1)%pp.length<pp.length:=cO _ (by omega)
   obtain⟨bi,g1,g2,_⟩:=W.get mi
   have l1:=pbd i
   have l2:=pbd ((i+1)%pp.length)
   refine⟨_,rfl,ai,rfl,⟨_,SqL.of h3⟩,iP (K:=K) (a:=ai) (xs:=(pp.getD i []).map V.int) (λj σ G=>∃ (us:List V) (x7 x8:Option V),σ = [some (.ref a),some (.ref ps),some (.int ws.sum),x3,some (.ref t),some (.int (i:Int)),some (.ref ai),x7,x8]/\fL H G/\PcW G t ps as pp/\G t=some (.lst us)/\Ps K G ((List.range i).flatMap (qm pp)++((pp.getD i []).take j).flatMap λo=>(pp.getD ((i+1)%pp.length) []).map (DL o)) us/\us.length<=100*i+10*j)
    ⟨us,x7,x8,rfl,S,W,ht,by simpa using D,by have:=D.len;omega⟩ (λj σ G _ ⟨_,_,_,_,_,h,_⟩=>SqL.of (h.each i ai _ h1 h2).2) ?_ ?_⟩
   ·rintro j y σ G3 N2 R2 B2 kN2 _ hj ⟨us,x7,x8,rfl,S,W,ht,D,ul⟩
    rw[ah]at hj
    cases q:(pp.getD i [])[j]? with
    |none=>rw[q]at hj;cases hj
    |some o=>
     rw[q]at hj
     cases hj
     have jl2:j<(pp.getD i []).length:=(af.mp q).1
     have tk:(pp.getD i []).take (j+1)=(pp.getD i []).take j ++ [o]:=by rw[aV,q];rfl
     have hb3:=(W.each _ bi _ g1 g2).2
     have am:((i:Int)+1)%((as.map V.ref).length:Int)=(((i+1)%pp.length:Nat):Int):=by rw[aa,W.len,Int.natCast_emod];rfl
     refine⟨_,rfl,_,rfl,_,_,rfl,rfl,_,rfl,ps,_,rfl,.inl (SqL.of W.at_),_,_,rfl,rfl,(by show(0:Int)<((as.map V.ref).length:Int);rw[aa,W.len];omega),ps,_,_,V.ref bi,rfl,rfl,SqL.of W.at_,(by show atI (as.map V.ref) (((i:Int)+1)%((as.map V.ref).length:Int))=_;rw[am];exact p7 (by rw[ah,g1];rfl)),bi,rfl,⟨_,SqL.of hb3⟩,iP (K:=K) (a:=bi) (xs:=(pp.getD ((i+1)%pp.length) []).map V.int) (λz σ G=>∃ (us:List V) (x8:Option V),σ = [some (.ref a),some (.ref ps),some (.int ws.sum),x3,some (.ref t),some (.int (i:Int)),some (.ref ai),some (.int o),x8]/\fL H G/\PcW G t ps as pp/\G t=some (.lst us)/\Ps K G (((List.range i).flatMap (qm pp)++((pp.getD i []).take j).flatMap λo=>(pp.getD ((i+1)%pp.length) []).map (DL o))++((pp.getD ((i+1)%pp.length) []).take z).map (DL o)) us/\us.length<=100*i+10*j+z)
      ⟨us,x8,rfl,S,W,ht,by simpa using D,by omega⟩ (λz σ G _ ⟨_,_,_,_,h,_⟩=>SqL.of (h.each _ bi _ g1 g2).2) ?_ ?_⟩
     ·rintro z y σ G4 N3 R3 B3 kN3 _ hz ⟨us,x8,rfl,S,W,ht,D,ul⟩
      rw[ah]at hz
      cases q2:(pp.getD ((i+1)%pp.length) [])[z]? with
      |none=>rw[q2]at hz;cases hz
      |some x=>
       rw[q2]at hz
       cases hz
       have zl:z<(pp.getD ((i+1)%pp.length) []).length:=(af.mp q2).1
       have tk2:(pp.getD ((i+1)%pp.length) []).take (z+1)=(pp.getD ((i+1)%pp.length) []).take z ++ [x]:=by rw[aV,q2];rfl
       refine⟨_,rfl,.inl ⟨rfl,_,SqL.of ht⟩,_,rfl,_,_,rfl,rfl,.inl ⟨by decide,by decide⟩,_,_,rfl,rfl,_,rfl,_,_,rfl,rfl,.inl ⟨by decide,by decide⟩,_,_,rfl,_,rfl,_,_,rfl,rfl,.inl ⟨by decide,by decide⟩,_,_,rfl,rfl,_,rfl,_,_,rfl,rfl,.inl ⟨by decide,by decide⟩,_,_,rfl,by show 2<=sizeLine;decide,λp2 np2=>?_⟩
       rw[EB,EC]
       have s5:=fF (o:=.tup [.int (min (2*o+1) (2*x)),.int (max (2*o+1) (2*x))]) np2
       have p9:pp.length<=9:=by omega
       refine⟨t,us,_,rfl,rfl,s5 _ _ ht,jC (by omega),?_⟩
       refine kN3 _ _ ⟨us ++ [.ref p2],_,rfl,fL.upd (S.trans s5) nt0,(W.same s5).upd,fE,?_,by rw[ak];show us.length+1<=_;omega⟩
       have:=Ps.push (o:=.lst (us ++ [V.ref p2])) (x:=DL o x) (D.same s5) (s5 _ _ ht) fE
       rw[tk2,av,<-cN]
       exact this
     ·rintro σ G4 ⟨us,x8,rfl,S,W,ht,D,ul⟩
      rw[aa]at ul D
      rw[aX]at D
      refine kN2 _ _ ⟨us,_,_,rfl,S,W,ht,?_,by omega⟩
      rw[tk,List.flatMap_append,<-cN]
      simpa using D
   ·rintro σ G3 ⟨us,x7,x8,rfl,S,W,ht,D,ul⟩
    rw[aa]at ul D
    rw[aX]at D
    have e:(List.range (i+1)).flatMap (qm pp)=(List.range i).flatMap (qm pp)++qm pp i:=by rw[List.range_succ,List.flatMap_append];simp
    refine kN _ _ ⟨us,_,_,_,_,_,rfl,S,W,ht,by rw[e];exact D,?_⟩
    have dl:=D.len
    have dl:us.length=((List.range i).flatMap (qm pp)++qm pp i).length:=dl
    rw[e,<-dl]
    omega
  ·rintro σ G2 ⟨us,x3,x5,x6,x7,x8,rfl,S,W,ht,D,jl⟩
   rw[aa,L.len]at D
   refine⟨_,rfl,_,rfl,by show 2<=sizeLine;decide,λp np=>?_⟩
   have s3:=fF (o:=.tup [.int ws.sum,.ref t]) np
   exact k p t us _ (S.trans s3) nt0 fE (s3 _ _ ht) (D.same s3)
end
noncomputable def qP (K:PySem.W.Frag):Sp:=λvs H Q _=>∃ n:Int,vs = [.int n]/\∀ (v:V) (l:Ln) (H':Hp),fL H H'->tw l->Da K H' (dL l) v->Q v H'
structure Dns (i j:Int)(js:List (Int×Int)):Prop where
 ok:∀ p∈js,okJ 7 p/\(p.1<i\/p.1=i/\p.2<j)
 nd:js.Nodup
noncomputable abbrev m9:Stmt:=top 55
theorem kq:gf ["_law_number","_law_joints","_law_one","_law_other_here"] ["_law_number"] (fM m9):=⟨rfl,rfl,rfl,by decide +kernel,rfl,by decide +kernel,by decide +kernel⟩
section
variable {P:Program}{w:World}{K:PySem.W.Frag}{mg:Str->Option Value}{base:Heap}{f:Addr}{fd:FuncData}
theorem xW (F:Fn K mg "_law_dense" m9 ["_law_number"] f fd)(gh:Fn K mg "_law_mix" kO ["_law_cell","_law_k"] f1 fd1)(B:Bm mg):fV P w K mg base CX0 2 f fd ["_law_number"] (qP K):=by
 have jx:fV P w K mg base CX0 1 f1 fd1 ["_law_cell","_law_k"] uf:=oz gh B.toBl
 refine F.F.ok kq (λvs H Q E h=>?_) (λcdv A outer s H vs Q E hr h=>?_)
 ·obtain⟨n,rfl,_⟩:=h;rfl
 ·obtain⟨n,rfl,k⟩:=h
  refine⟨_,(fH (fS (i:=1) kq.nd rfl (Or.inl rfl) (gJ fG))
 (fH (ir aN rfl (nT rfl B.range (fD fI fG)) (fO (i:=2) kq.nd rfl (Or.inl rfl))
 (fJ (ir aN rfl (wM rfl B.range (fD (fT iS (pv 2) fI) (fD fI fG))) (fO (i:=3) kq.nd rfl (Or.inl rfl))
 (fJ (gR (gC (Au (fT iW (pv 2) fI) (fT iW (pv 3) fI)))
 (fH (gX (kK aH dQ fu sq (pv 1) (fD (fT i6 (pv 0) (fT iS (gd gw rfl B.len cu (fD (pv 1) fG)) fI)) (fD (gA (fD (pv 2) (fD (pv 3) fG))) fG))))
 (fJ (fS (i:=0) kq.nd rfl (Or.inl rfl) (fP jx (hr.mono (by decide)) rfl gh.m gh.F.kp gh.b .nil gv (fD (pv 0) (fD (gd gw rfl B.len cu (fD (pv 1) fG)) fG)))))) fZ)))))
 (fJ (fW (gA (fD fI (fD (jZ lh (pv 1) lx (lu fI)) fG))))))),?_⟩
  refine⟨aI _,λt nt=>?_⟩
  dsimp only[oN]
  refine⟨_,rfl,by decide,by decide,oE (λi σ G=>∃ (n:Int) (us:List V) (js:List (Int×Int)) (x2 x3:Option V),σ = [some (.int n),some (.ref t),x2,x3]/\fL H G/\G t=some (.lst us)/\Ps K G js us/\Dns i 0 js/\js.length<=14*i)
   ⟨n,[],[],none,none,rfl,fF nt,fE,gN.mpr rfl,⟨λp hp=>(nomatch hp),cz⟩,by simp⟩ ?_ ?_⟩
  ·rintro i σ G N R B' kN _ hi ⟨n,us,js,x2,x3,rfl,S,ht,D,dn,jl⟩
   have hi:i<14:=hi
   have i0:(0:Int)+(i:Nat)=(i:Int):=by omega
   rw[i0]
   refine⟨_,rfl,_,_,rfl,rfl,(i:Int)+1,14,rfl,⟨by omega,by omega,by decide,by decide⟩,oE (λj σ G=>∃ (n:Int) (us:List V) (js:List (Int×Int)) (x3:Option V),σ = [some (.int n),some (.ref t),some (.int i),x3]/\fL H G/\G t=some (.lst us)/\Ps K G js us/\Dns i (i+1+j) js/\js.length<=14*i+j)
    ⟨n,us,js,x3,rfl,S,ht,D,⟨λp hp=>⟨(dn.ok p hp).1,.inl ((dn.ok p hp).2.elim id λz=>by have:=(dn.ok p hp).1;unfold okJ at this;omega)⟩,dn.nd⟩,by omega⟩ ?_ ?_⟩
   ·rintro j σ G N2 R2 B2 kN2 _ hj ⟨n,us,js,x3,rfl,S,ht,D,dn,jl⟩
    have hj:j<((14:Int)-((i:Int)+1)).toNat:=hj
    have ul:=D.len
    refine⟨_,rfl,_,_,rfl,rfl,⟨by decide,by decide⟩,_,rfl,_,_,rfl,rfl,⟨by decide,by decide⟩,_,_,rfl,rfl,_,rfl,ip (λh=>?_) (λh=>?_)⟩
    ·have h:¬(i:Int)/2=((i:Int)+1+(j:Nat))/2:=by simpa using h
     refine⟨_,rfl,.inl ⟨rfl,_,SqL.of ht⟩,_,rfl,_,rfl,t,_,rfl,.inl (SqL.of ht),_,_,rfl,rfl,_,_,rfl,rfl,(by show(0:Int)<(us.length:Int)+1;omega),_,rfl,_,rfl,by show 2<=sizeLine;decide,λp1 n1=>?_⟩
     have s1:=fF (o:=.tup [.int (i:Int),.int ((i:Int)+1+(j:Nat))]) n1
     have b0:=dg n (show(us.length:Int)+1≠0 by omega)
     have b1:=cF n (show(0:Int)<(us.length:Int)+1 by omega)
     refine⟨t,us,_,_,rfl,rfl,s1 _ _ ht,b0,by omega,jC (by omega),?_⟩
     have D2:=Ps.ins (x:=((i:Int),(i:Int)+1+(j:Nat))) (o:=.lst (us.take (n%((us.length:Int)+1)).toNat++V.ref p1::us.drop (n%((us.length:Int)+1)).toNat)) (n%((us.length:Int)+1)).toNat (D.same s1) (s1 _ _ ht) fE
     have pm:=qY js (n%((us.length:Int)+1)).toNat ((i:Int),(i:Int)+1+(j:Nat))
     have S2:fL H (upd (upd G p1 (.tup [.int (i:Int),.int ((i:Int)+1+(j:Nat))])) t (.lst (us.take (n%((us.length:Int)+1)).toNat++V.ref p1::us.drop (n%((us.length:Int)+1)).toNat))):=fL.upd (S.trans s1) nt
     have ht2:=fE (H:=upd G p1 (.tup [.int (i:Int),.int ((i:Int)+1+(j:Nat))])) (a:=t) (o:=.lst (us.take (n%((us.length:Int)+1)).toNat++V.ref p1::us.drop (n%((us.length:Int)+1)).toNat))
     have l2:(us.take (n%((us.length:Int)+1)).toNat++V.ref p1::us.drop (n%((us.length:Int)+1)).toNat).length=us.length+1:=(qY us _ _).length_eq
     generalize us.take (n%((us.length:Int)+1)).toNat++V.ref p1::us.drop (n%((us.length:Int)+1)).toNat=us2 at D2 S2 ht2 l2 ⊢
     generalize js.take (n%((us.length:Int)+1)).toNat++((i:Int),(i:Int)+1+(j:Nat))::js.drop (n%((us.length:Int)+1)).toNat=js2 at D2 pm
     refine⟨_,rfl,_,rfl,t,_,rfl,.inl (SqL.of ht2),n,us2.length,rfl,by omega,by omega,λn' _ _=>kN2 _ _ ⟨n',us2,js2,_,rfl,S2,ht2,D2,⟨λp hp=>?_,pm.nodup_iff.mpr (bq.mpr ⟨λz=>?_,dn.nd⟩)⟩,by rw[pm.length_eq,aO];omega⟩⟩
     ·rcases aE.mp (pm.mem_iff.mp hp)with rfl |hp
      ·unfold okJ;dsimp only;exact⟨by omega,.inr ⟨rfl,by omega⟩⟩
      ·have:=dn.ok p hp;exact⟨this.1,by omega⟩
     ·have:=(dn.ok _ z).2;dsimp only at this;omega
    ·exact kN2 _ _ ⟨n,us,js,_,rfl,S,ht,D,⟨λp hp=>⟨(dn.ok p hp).1,by have:=(dn.ok p hp).2;omega⟩,dn.nd⟩,by omega⟩
   ·rintro σ G ⟨n,us,js,x3,rfl,S,ht,D,dn,jl⟩
    exact kN _ _ ⟨n,us,js,_,_,rfl,S,ht,D,⟨λp hp=>⟨(dn.ok p hp).1,.inl (by have:=(dn.ok p hp).2;omega)⟩,dn.nd⟩,by omega⟩
  ·rintro σ G ⟨n,us,js,x2,x3,rfl,S,ht,D,dn,jl⟩
   refine⟨_,rfl,_,rfl,t,_,rfl,SqL.of ht,λq nq=>?_⟩
   rw[Fg us (by decide)]
   have s1:=fF (o:=.lst (us.take (24:Int).toNat)) nq
   refine⟨by show 2<=sizeLine;decide,λp np=>?_⟩
   have s2:=fF (o:=.tup [.int 7,.ref q]) np
   have D2:Ps K G (js.take (24:Int).toNat) (us.take (24:Int).toNat):=by
    show Dgs _ _ ((js.take _).map TL.dP) _
    rw[eG];exact Dgs.take _ D
   refine k _ (7,js.take (24:Int).toNat) _ (S.trans (s1.trans s2)) ⟨by show(1:Int)<=7;decide,by show(7:Int)<=14;decide,List.length_take_le _ _,λp hp=>(dn.ok p (dB hp)).1,dn.nd.sublist (List.take_sublist _ _)⟩ (pZ (l:=(7,js.take (24:Int).toNat)) fE ((D2.same (s1.trans s2)).da (s2 _ _ fE)))
end
noncomputable def Dr:List (List Int):=[[2,2,2,2,2,2],[3,2,2,2,2],[2,2,2,2,2,2],[2,2,2,2,2],[2,2,2,2],[2,2,2],[3,3],[3,3,3]]
noncomputable def opn (w:Int)(p:Int×Int):Bool:=decide (p.1/2≥w)||decide (p.1%2=1)
noncomputable def okB (m:Int)(p:Int×Int):Bool:=decide ((0<=p.1/\p.1<2*m)/\(0<=p.2/\p.2<2*m)/\p.1<=p.2/\p.1/2≠p.2/2)
noncomputable def rnB (ws:List Int):Bool:=(decide (ws.length<=9)&&ws.all λw=>decide (0<=w/\w<=9))&&decide (1<=ws.sum/\ws.sum<=14)&&((lT (kI 0 ws)).all (okB ws.sum)&&decide (lT (kI 0 ws)).Nodup)&&(decide ((lT (kI 0 ws)).length<=80/\1<=(lT (kI 0 ws)).length)&&decide (((lT (kI 0 ws)).filter (opn (ws.headD 0))).length<=24/\1<=((lT (kI 0 ws)).filter (opn (ws.headD 0))).length))&&decide (ws≠ [])
theorem HK:Dr.all rnB=true:=by decide +kernel
structure Rn (ws:List Int):Prop where
 ne:ws≠ []
 len:ws.length<=9
 each:∀ w∈ws,0<=w/\w<=9
 sum:1<=ws.sum/\ws.sum<=14
 ok:∀ p∈lT (kI 0 ws),okJ ws.sum p
 nd:(lT (kI 0 ws)).Nodup
 jl:(lT (kI 0 ws)).length<=80/\1<=(lT (kI 0 ws)).length
 fl:((lT (kI 0 ws)).filter (opn (ws.headD 0))).length<=24/\1<=((lT (kI 0 ws)).filter (opn (ws.headD 0))).length
theorem JN {ws:List Int}(h:ws∈Dr):Rn ws:=by
 have h:=cx.mp HK ws h
 unfold rnB at h
 simp only[dF,cx,dq]at h
 obtain⟨⟨⟨⟨⟨h1,h2⟩,h3⟩,h4,h5⟩,h6,h7⟩,h8⟩:=h
 exact⟨h8,h1,h2,h3,λp hp=>by have:=h4 p hp;unfold okB at this;unfold okJ;simpa using this,h5,h6,h7⟩
theorem wL {K:PySem.W.Frag}{H:Hp}(p:Int×Int->Bool):∀ {js:List (Int×Int)}{us:List V},Ps K H js us->Ps K H (js.filter p) (((js.zip us).filter λz=>p z.1).map (·.2))
 |[],us,h=>gN.mpr (by rw[List.zip_nil_left];rfl)
 |j::js,us,h=>by
  obtain⟨v,r,rfl,h1,h2⟩:=gm.mp h
  have ih:=wL p (js:=js) (us:=r) h2
  rw[List.zip_cons_cons]
  by_cases c:p j=true
  ·rw[List.filter_cons_of_pos c,List.filter_cons_of_pos (by exact c)]
   exact gm.mpr ⟨_,_,rfl,h1,ih⟩
  ·rw[List.filter_cons_of_neg c,List.filter_cons_of_neg (by exact c)]
   exact ih
theorem t8 {σ:L2.St}{Q:VK}(k:Int)(hk:0<=k/\k<=100)(h:∀ b H',fL H H'->H' b=some (.lst ((List.replicate k.toNat (2:Int)).map V.int))->Q (.ref b) H'):tOp JP (JE (Bc (tC (V.int 2)) Hz)) (tC (V.int k)) σ H Q:=by
 refine⟨by show 1<=sizeLine;decide,λa na=>⟨a,k,_,rfl,rfl,fE,by omega,by omega,?_,λb nb=>h b _ ((fF na).trans (fF nb)) ?_⟩⟩
 ·show 1*k.toNat<=sizeLine
  exact bK (jC (by omega))
 ·rw[fE]
  congr 2
  rw[List.map_replicate]
  generalize k.toNat=m
  induction m with
  |zero=>rfl
  |succ m ih=>rw[bP,dw,ih,bP];rfl
noncomputable abbrev ky:Stmt:=top 54
theorem jY:gf ["_law_number","_law_rungs_here","_law_many","_law_joints"] ["_law_number"] (fM ky):=⟨rfl,rfl,rfl,by decide +kernel,rfl,by decide +kernel,by decide +kernel⟩
theorem oO:gF (fM ky) ["_law_number","_law_rungs_here","_law_many","_law_joints"] {kind:=.function,names:=[(Str.ofString ".0",.local),(Str.ofString "_law_joint",.local),(Str.ofString "_law_rungs_here",.free)],isGenerator:=false,isCoroutine:=false,more:=[]} ["_law_joint","_law_rungs_here"] 1 [none,some 1]:=⟨rfl,by decide +kernel,by decide +kernel,by decide +kernel,rfl,by decide +kernel,rfl,by decide +kernel⟩
section
variable {P:Program}{w:World}{K:PySem.W.Frag}{mg:Str->Option Value}{base:Heap}{f:Addr}{fd:FuncData}
theorem vS (F:Fn K mg "_law_rounds" ky ["_law_number"] f fd)(kh:Fn K mg "_law_rungs" m8 ["_law_rungs_here"] f1 fd1)(B:Bm mg):fV P w K mg base CX0 2 f fd ["_law_number"] (qP K):=by
 have Ab:fV P w K mg base CX0 1 f1 fd1 ["_law_rungs_here"] (yM K):=xU kh B
 refine F.F.ok jY (λvs H Q E h=>?_) (λcdv A outer s H vs Q E hr h=>?_)
 ·obtain⟨n,rfl,_⟩:=h;rfl
 ·obtain⟨n,rfl,k⟩:=h
  refine⟨_,(@fH _ _ _ _ _ (@fS _ _ (1) _ _ _ _ jY.nd rfl (Or.inr rfl) (@gY _ _ _ _ _ _ _ (@ig _) (@gJ _ _ _ _ (@fD _ _ _ _ _ (@fT _ _ _ _ _ _ _ _ (@sh _) (@gJ _ _ _ _ (@fD _ _ _ _ _ (@fI _ _ _ _) (@fG _) (by rfl))) (@fI _ _ _ _)) (@fD _ _ _ _ _ (@gJ _ _ _ _ (@fD _ _ _ _ _ (@fI _ _ _ _) (@fD _ _ _ _ _ (@fI _ _ _ _) (@fD _ _ _ _ _ (@fI _ _ _ _) (@fD _ _ _ _ _ (@fI _ _ _ _) (@fD _ _ _ _ _ (@fI _ _ _ _) (@fG _) (by rfl)) (by rfl)) (by rfl)) (by rfl)) (by rfl))) (@fD _ _ _ _ _ (@fT _ _ _ _ _ _ _ _ (@sh _) (@gJ _ _ _ _ (@fD _ _ _ _ _ (@fI _ _ _ _) (@fG _) (by rfl))) (@fI _ _ _ _)) (@fD _ _ _ _ _ (@fT _ _ _ _ _ _ _ _ (@sh _) (@gJ _ _ _ _ (@fD _ _ _ _ _ (@fI _ _ _ _) (@fG _) (by rfl))) (@fI _ _ _ _)) (@fD _ _ _ _ _ (@fT _ _ _ _ _ _ _ _ (@sh _) (@gJ _ _ _ _ (@fD _ _ _ _ _ (@fI _ _ _ _) (@fG _) (by rfl))) (@fI _ _ _ _)) (@fD _ _ _ _ _ (@fT _ _ _ _ _ _ _ _ (@sh _) (@gJ _ _ _ _ (@fD _ _ _ _ _ (@fI _ _ _ _) (@fG _) (by rfl))) (@fI _ _ _ _)) (@fD _ _ _ _ _ (@gJ _ _ _ _ (@fD _ _ _ _ _ (@fI _ _ _ _) (@fD _ _ _ _ _ (@fI _ _ _ _) (@fG _) (by rfl)) (by rfl))) (@fD _ _ _ _ _ (@gJ _ _ _ _ (@fD _ _ _ _ _ (@fI _ _ _ _) (@fD _ _ _ _ _ (@fI _ _ _ _) (@fD _ _ _ _ _ (@fI _ _ _ _) (@fG _) (by rfl)) (by rfl)) (by rfl))) (@fG _) (by rfl)) (by rfl)) (by rfl)) (by rfl)) (by rfl)) (by rfl)) (by rfl)) (by rfl))) (@fT _ _ _ _ _ _ _ _ (@i6 _) (@pv _ 0 _ _ (by rfl) (by first |exact Or.inl rfl |exact Or.inr (Or.inl rfl)|exact Or.inr (Or.inr rfl)) (by decide) (by decide)) (@fI _ _ _ _)) (λ_ _=>rfl)) (by rfl) (by first |exact .inl rfl |exact .inr rfl |assumption)) (@fH _ _ _ _ _ (@oZ _ _ _ _ _ _ (@fP _ _ _ _ _ _ _ _ _ _ _ _ _ _ _ _ Ab (hr.mono (by decide)) rfl kh.m kh.F.kp kh.b .nil (@gv _) (@fD _ _ _ _ _ (@pv _ 1 _ _ (by rfl) (by first |exact Or.inl rfl |exact Or.inr (Or.inl rfl)|exact Or.inr (Or.inr rfl)) (by decide) (by decide)) (@fG _) (by rfl)) (by decide) (by rfl) (by rfl)) (@iu _ _ _ _ _ (2) rfl (@fQ _ _ _ _ _ (@fO _ _ (2) _ jY.nd rfl (Or.inl rfl) (by first |exact .inl rfl |exact .inr rfl |assumption)) (@fQ _ _ _ _ _ (@fO _ _ (3) _ jY.nd rfl (Or.inl rfl) (by first |exact .inl rfl |exact .inr rfl |assumption)) (@gQ _) (by rfl)) (by rfl)) (by rfl) (by rfl)) (by rfl) (by rfl) (by rfl)) (@fH _ _ _ _ _ (@gR _ _ _ _ _ _ _ _ (PW.pt (@yW _ _ _ _ _ _ _ (gC (@kP _ _ _ _ _ (@fT _ _ _ _ _ _ _ _ (@i6 _) (@fT _ _ _ _ _ _ _ _ (@iW _) (@pv _ 0 _ _ (by rfl) (by first |exact Or.inl rfl |exact Or.inr (Or.inl rfl)|exact Or.inr (Or.inr rfl)) (by decide) (by decide)) (@fI _ _ _ _)) (@fI _ _ _ _)) (@fI _ _ _ _))) (@uB _ _ _ _ (gC (@uF _ _ _ _ _ (@gd _ _ _ _ _ _ _ _ _ (@gw _) rfl B.len cu (@fD _ _ _ _ _ (@pv _ 3 _ _ (by rfl) (by first |exact Or.inl rfl |exact Or.inr (Or.inl rfl)|exact Or.inr (Or.inr rfl)) (by decide) (by decide)) (@fG _) (by rfl)) (by decide) (by decide) (by rfl) (by rfl)) (@fI _ _ _ _)))))) (@fJ _ _ _ (@wK _ _ _ _ _ _ _ _ _ _ _ _ _ _ (3) _ _ _ jY.nd rfl rfl (@gq _ _ _ _ (@pv _ 3 _ _ (by rfl) (by first |exact Or.inl rfl |exact Or.inr (Or.inl rfl)|exact Or.inr (Or.inr rfl)) (by decide) (by decide))) rfl oO (.name (by decide)) (λ_ _ _ _=>(@fO _ _ (0) _ oO.nd rfl (Or.inl rfl) (by first |exact .inl rfl |exact .inr rfl |assumption))) (λ_ _ _ _=>(@mK _ _ _ (PW.pt (@yW _ _ _ _ _ _ _ (gC (@Ha _ _ _ _ _ (@fT _ _ _ _ _ _ _ _ (@iW _) (@gY _ _ _ _ _ _ _ (@BM _ (K) rfl) (@pv _ 0 _ _ (by rfl) (by first |exact Or.inl rfl |exact Or.inr (Or.inl rfl)|exact Or.inr (Or.inr rfl)) (by decide) (by decide)) (@fI _ _ _ _) (λ_ _=>rfl)) (@fI _ _ _ _)) (@gY _ _ _ _ _ _ _ (@EN _ (K) rfl) (@pv _ 1 _ _ (by rfl) (by first |exact Or.inl rfl |exact Or.inr (Or.inl rfl)|exact Or.inr (Or.inr rfl)) (by decide) (by decide)) (@fI _ _ _ _) (λ_ _=>rfl)))) (@uB _ _ _ _ (gC (@kP _ _ _ _ _ (@fT _ _ _ _ _ _ _ _ (@i6 _) (@gY _ _ _ _ _ _ _ (@BM _ (K) rfl) (@pv _ 0 _ _ (by rfl) (by first |exact Or.inl rfl |exact Or.inr (Or.inl rfl)|exact Or.inr (Or.inr rfl)) (by decide) (by decide)) (@fI _ _ _ _) (λ_ _=>rfl)) (@fI _ _ _ _)) (@fI _ _ _ _)))))))) (λ_ _ _ _=>(@pv _ 0 _ _ (by rfl) (by first |exact Or.inl rfl |exact Or.inr (Or.inl rfl)|exact Or.inr (Or.inr rfl)) (by decide) (by decide))) (by rfl) (by intros;rfl))) (@fZ _)) (@fH _ _ _ _ _ (@gR _ _ _ _ _ _ _ _ (gC (@kP _ _ _ _ _ (@fT _ _ _ _ _ _ _ _ (@i6 _) (@pv _ 0 _ _ (by rfl) (by first |exact Or.inl rfl |exact Or.inr (Or.inl rfl)|exact Or.inr (Or.inr rfl)) (by decide) (by decide)) (@fI _ _ _ _)) (@fI _ _ _ _))) (@fJ _ _ _ (@gX _ _ _ _ (@As _ _ _ _ _ _ _ _ _ aH PySem.F.slot_list_pop PySem.F.type_list_pop (@Ik _) (@pv _ 3 _ _ (by rfl) (by first |exact Or.inl rfl |exact Or.inr (Or.inl rfl)|exact Or.inr (Or.inr rfl)) (by decide) (by decide)) (by rfl) (by rfl)) (by rfl))) (@fZ _)) (@fJ _ _ _ (@fW _ _ _ _ (@gA _ _ _ _ _ (@fD _ _ _ _ _ (@pv _ 2 _ _ (by rfl) (by first |exact Or.inl rfl |exact Or.inr (Or.inl rfl)|exact Or.inr (Or.inr rfl)) (by decide) (by decide)) (@fD _ _ _ _ _ (@pv _ 3 _ _ (by rfl) (by first |exact Or.inl rfl |exact Or.inr (Or.inl rfl)|exact Or.inr (Or.inr rfl)) (by decide) (by decide)) (@fG _) (by rfl)) (by rfl))))))))),?_⟩
  refine nm λR1 hR1=>?_
  refine t8 6 (by decide) λb1 H1 s1 h1=>?_
  refine⟨by show 5<=sizeLine;decide,λb2 nb2=>?_⟩
  have s2:=fF (o:=.lst [.int 3,.int 2,.int 2,.int 2,.int 2]) nb2
  have h2:=fE (H:=H1) (a:=b2) (o:=.lst [.int 3,.int 2,.int 2,.int 2,.int 2])
  generalize upd H1 b2 _=H2 at s2 h2 ⊢
  refine t8 6 (by decide) λb3 H3 s3 h3=>?_
  refine t8 5 (by decide) λb4 H4 s4 h4=>?_
  refine t8 4 (by decide) λb5 H5 s5 h5=>?_
  refine t8 3 (by decide) λb6 H6 s6 h6=>?_
  refine⟨by show 2<=sizeLine;decide,λb7 nb7=>?_⟩
  have s7:=fF (o:=.lst [.int 3,.int 3]) nb7
  have h7:=fE (H:=H6) (a:=b7) (o:=.lst [.int 3,.int 3])
  generalize upd H6 b7 _=H7 at s7 h7 ⊢
  refine⟨by show 3<=sizeLine;decide,λb8 nb8=>?_⟩
  have s8:=fF (o:=.lst [.int 3,.int 3,.int 3]) nb8
  have h8:=fE (H:=H7) (a:=b8) (o:=.lst [.int 3,.int 3,.int 3])
  generalize upd H7 b8 _=H8 at s8 h8 ⊢
  refine⟨by show 8<=sizeLine;decide,λc nc=>?_⟩
  have pick:∃ (b:Addr) (ws:List Int),atI [V.ref b1,V.ref b2,V.ref b3,V.ref b4,V.ref b5,V.ref b6,V.ref b7,V.ref b8] (n%8)=some (.ref b)/\H8 b=some (.lst (ws.map V.int))/\ws∈Dr:=by
   have m0:=dg n (show(8:Int)≠0 by decide)
   have m1:=cF n (show(0:Int)<8 by decide)
   have t7:=s8
   have t6:=s7.trans t7
   have t5:=s6.trans t6
   have t4:=s5.trans t5
   have t3:=s4.trans t4
   have t2:=s3.trans t3
   have t1:=s2.trans t2
   rcases(by omega:n%8=0\/n%8=1\/n%8=2\/n%8=3\/n%8=4\/n%8=5\/n%8=6\/n%8=7)with e |e |e |e |e |e |e |e
   ·exact⟨b1,_,by rw[e];rfl,t1 _ _ h1,by decide⟩
   ·exact⟨b2,[3,2,2,2,2],by rw[e];rfl,t2 _ _ h2,by decide⟩
   ·exact⟨b3,_,by rw[e];rfl,t3 _ _ h3,by decide⟩
   ·exact⟨b4,_,by rw[e];rfl,t4 _ _ h4,by decide⟩
   ·exact⟨b5,_,by rw[e];rfl,t5 _ _ h5,by decide⟩
   ·exact⟨b6,_,by rw[e];rfl,t6 _ _ h6,by decide⟩
   ·exact⟨b7,[3,3],by rw[e];rfl,t7 _ _ h7,by decide⟩
   ·exact⟨b8,[3,3,3],by rw[e];rfl,h8,by decide⟩
  have S8:=s1.trans (s2.trans (s3.trans (s4.trans (s5.trans (s6.trans (s7.trans s8))))))
  obtain⟨b,ws,hat,hb,hws⟩:=pick
  have W:=JN hws
  clear h1 h2 h3 h4 h5 h6 h7 h8 s1 s2 s3 s4 s5 s6 s7 s8
  have s9:=fF (o:=.lst [V.ref b1,V.ref b2,V.ref b3,V.ref b4,V.ref b5,V.ref b6,V.ref b7,V.ref b8]) nc
  have h9:=fE (H:=H8) (a:=c) (o:=.lst [V.ref b1,V.ref b2,V.ref b3,V.ref b4,V.ref b5,V.ref b6,V.ref b7,V.ref b8])
  have hb9:=s9 _ _ hb
  have S9:=S8.trans s9
  generalize upd H8 c _=H9 at s9 h9 hb9 S9 ⊢
  refine⟨_,rfl,_,_,rfl,rfl,(by show(0:Int)<8;decide),c,_,_,V.ref b,rfl,rfl,SqL.of h9,hat,?_⟩
  refine hR1 _ _ _ (nm λR2 hR2=>?_)
  refine⟨_,rfl,b,ws,rfl,SqL.of hb9,W.ne,W.len,W.each,λpr t us G1 S1 nt1 hpr ht1 D1=>?_⟩
  refine⟨pr,_,rfl,SqT.of hpr,rfl,_,_,rfl,_,_,rfl,rfl,?_⟩
  refine hR2 _ _ _ (cut (λσ G=>∃ (t:Addr) (us:List V) (js:List (Int×Int)),σ = [some (.int n),some (.ref b),some (.int ws.sum),some (.ref t)]/\fL H G/\H t=none/\G t=some (.lst us)/\Ps K G js us/\js.Sublist (lT (kI 0 ws))/\js.length<=24/\1<=js.length) (λN R B' C kN _=>?_) ?_)
  ·apply Kh
   case h=>
    intro J
    refine⟨_,rfl,_,_,rfl,rfl,⟨by decide,by decide⟩,_,_,rfl,rfl,(by show(0:Int)<3;decide),_,_,rfl,rfl,_,rfl,ip (λ_=>J ()) (λ_=>?_)⟩
    refine⟨_,rfl,t,_,rfl,.inl (SqL.of ht1),_,_,rfl,rfl,_,rfl,ip (λ_=>J ()) (λh=>?_)⟩
    have h:¬(24:Int)<us.length:=by simpa using h
    exact kN _ _ ⟨t,us,_,rfl,S9.trans S1,fL.free S9 nt1,ht1,D1,List.Sublist.refl _,by have:=D1.len;omega,W.jl.2⟩
   have hA:SqL K G1 t us:=SqL.of ht1
   have ul:=D1.len
   have hb1:=S1 _ _ hb9
   refine⟨_,rfl,t,rfl,⟨_,hA⟩,λq nq=>tP us.length ((lT (kI 0 ws)).zip us) (λz=>opn (ws.headD 0) z.1) (λz=>z.2) nq (by rw[bV];omega) (jC (by have:=W.jl;omega)) (λi G s hi=>(gK hA).go i G s hi) (λG s=>(gK hA).stop G s) ?_ ?_⟩
   ·intro i y d G G' sG yy hd Q1 Q0 q1 q0
    have hil:i<us.length:=by have:=(af.mp hd).1;rw[bV]at this;omega
    obtain⟨rfl,hy⟩:=(gK hA).yld i G y G' sG hil yy
    obtain⟨hz1,hz2⟩:=cI.mp hd
    rw[hz2]at hy
    cases hy
    obtain⟨ad,p,e1,e2,hp⟩:=nZ (Das.same sG D1.das) hz2
    rw[hz1]at e1
    cases e1
    have a0:atI (ws.map V.int) 0=some (V.int (ws.headD 0)):=by
     cases hq:ws with
     |nil=>exact absurd hq W.ne
     |cons x r=>unfold atI ixN;simp
    have q1:∀ H2,opn (ws.headD 0) d.1=true->fL G' H2->Q1 d.2 H2:=q1
    rw[e2]at q1
    dsimp only[oN]
    rw[e2]
    refine⟨_,rfl,ad,_,_,_,rfl,rfl,hp,rfl,_,_,rfl,rfl,⟨by decide,by decide⟩,_,rfl,b,_,_,_,rfl,rfl,SqL.of (sG _ _ hb1),a0,_,_,rfl,rfl,_,rfl,ip (λh=>nC ⟨_,rfl,q1 _ (by have h:decide (ws.headD 0<=d.1.1/2)=true:=h;unfold opn;rw[show decide (d.1.1/2≥ws.headD 0)=true from h];rfl) (fL.refl _)⟩) (λh=>?_)⟩
    refine⟨_,rfl,ad,_,_,_,rfl,rfl,hp,rfl,_,_,rfl,rfl,(by show(0:Int)<2;decide),_,_,rfl,rfl,_,rfl,ip (λh2=>⟨_,rfl,q1 _ (by
     have h2:d.1.1%2=1:=by simpa using h2
     unfold opn;rw[bB h2,Bool.or_true]) (fL.refl _)⟩) (λh2=>q0 _ (by
     have h2:¬d.1.1%2=1:=by simpa using h2
     have h:¬ws.headD 0<=d.1.1/2:=by simpa using h
     unfold opn;rw[aW h2,Bool.or_false];exact aW h) (fL.refl _))⟩
   ·intro G2 s2 hq
    refine kN _ _ ⟨q,_,_,rfl,(S9.trans S1).trans s2,fL.free (S9.trans S1) nq,hq,wL (opn (ws.headD 0)) (D1.same s2),eX,W.fl.1,W.fl.2⟩
  ·rintro σ G ⟨t,us,js,rfl,S,nt,ht,D,sub,l1,l2⟩
   have fin:∀ (us:List V) (js:List (Int×Int)) (G:Hp),fL H G->G t=some (.lst us)->Ps K G js us->js.Sublist (lT (kI 0 ws))->js.length<=24->Jz (Jw (Bc (FQ 2) (Bc (FQ 3) Hz))) {nx:=λx H'=>Q V.non H',rt:=Q} [some (.int n),some (.ref b),some (.int ws.sum),some (.ref t)] G:=λus js G S ht D sub l1=>by
    refine⟨_,rfl,_,rfl,by show 2<=sizeLine;decide,λp np=>?_⟩
    have s2:=fF (o:=.tup [.int ws.sum,.ref t]) np
    exact k _ (ws.sum,js) _ (S.trans s2) ⟨W.sum.1,W.sum.2,l1,λp hp=>W.ok p (sub.mem hp),W.nd.sublist sub⟩ (pZ (l:=(ws.sum,js)) fE ((D.same s2).da (s2 _ _ ht)))
   have ul:=D.len
   refine⟨_,rfl,_,_,rfl,rfl,(by show(0:Int)<8;decide),_,_,rfl,rfl,_,rfl,ip (λ_=>?_) (λ_=>fin us js G S ht D sub l1)⟩
   refine⟨_,rfl,.inl ⟨rfl,_,SqL.of ht⟩,t,us,us[us.length-1]'(by omega),rfl,rfl,ht,by simp,?_⟩
   refine fin us.dropLast js.dropLast _ (fL.upd S nt) fE ?_ ((bT js).trans sub) (by rw[bM];omega)
   have:=D.Hw (o:=.lst us.dropLast) ht
   show Dgs _ _ (js.dropLast.map TL.dP) _
   generalize upd G t (.lst us.dropLast)=G9 at this ⊢
   rw[cH,cH,eG,<-ul]
   exact Dgs.take _ this
end
theorem FK {l:Ln}{ns:List Int}(ok:gj l)(T:jf l ns)(hne:ns≠ []){i:Nat} :¬wt l ns (((fR l ns i).map (·.1)).dropLast):=λz=>by
 have E:=j6 ok T hne i
 have bm:=tW l ns i
 have bk:=pO l ns i
 have nd:=E.nd
 generalize fR l ns i=es at *
 rcases List.eq_nil_or_concat es with rfl |⟨r,e,rfl⟩
 ·exact nomatch z.2.1
 rw[List.concat_eq_append]at *
 rw[av]at z nd
 have z:wt l ns ((r.map (·.1) ++ [e.1]).dropLast):=z
 rw[List.dropLast_concat]at z
 have hn:e.1∉r.map (·.1):=λh=>by
  have:=(bQ.mp nd).2.2 e.1 h e.1 (by simp)
  exact this rfl
 have hb:=bm e (by simp)
 cases q:e.2 with
 |none=>
  rw[q]at hb
  exact hn (by rw[show e.1=ns from hb];exact z.2.1)
 |some tk=>
  obtain⟨t,k⟩:=tk
  rw[q]at hb
  obtain⟨j,e',hj,he',ht⟩:=bk.back r.length e.1 t k (by rw[ay (ar _),bu,<-q];rfl)
  rw[aq hj]at he'
  have hm:t∈r.map (·.1):=ao.mpr ⟨e',au he',ht⟩
  exact hn ((z.2.2 t hm).2 _ hb)
theorem zM (xs:List V):oQ xs none (some (-1))=xs.dropLast:=by
 unfold oQ
 have e:HT.sIx xs.length xs.length (some (-1))=xs.length-1:=by
  have h:=HT.BZ (-1) xs.length xs.length
  rw[aQ (by decide)]at h
  omega
 rw[e,HT.qW,List.drop_zero,Nat.sub_zero,cH]
theorem zK {ds:List PyData}(D:Das K H ds vs):Das K H ds.dropLast vs.dropLast:=by
 rw[cH,cH,Dgs.length D]
 exact Dgs.take _ D
theorem Ac {l:Ln}{ns:List Int}{ss:List (List Int)}(h:wt l ns ss):Fu l ns (ss.map λs=>(s,(0:Int),(0:Int))):=by
 have e:(ss.map λs=>(s,(0:Int),(0:Int))).map (·.1)=ss:=by rw[bo];exact List.map_id ss
 have nd:((ss.map λs=>(s,(0:Int),(0:Int))).map (·.1)).Nodup:=by rw[e];exact h.1
 have lk:∀ s∈ss,jV (ss.map λs=>(s,(0:Int),(0:Int))) s=some (0,0):=λs hs=>wX nd (r:=(s,0,0)) (ao.mpr ⟨s,hs,rfl⟩)
 refine⟨by rw[e];exact⟨h.1,λs hs=>(h.2.2 s hs).1⟩,lk ns h.2.1,λr hr=>?_⟩
 obtain⟨s,hs,rfl⟩:=ao.mp hr
 exact⟨by dsimp only;omega,λm hm=>⟨0,0,lk m.2 ((h.2.2 s hs).2 m hm),λ_=>Int.le_refl _,λ_=>Int.le_refl _⟩⟩
noncomputable def wg (K:PySem.W.Frag):Sp:=λvs H Q _=>∃ (v u:V) (p q:Addr) (l:Ln) (ns:List Int) (i:Nat) (as:List Addr) (us:List V),vs = [v,u,.ref p,.ref q]/\Da K H (dL l) v/\Da K H (dI ns) u/\gj l/\l.2.length<=24/\ns≠ []/\ns.length<=6/\jf l ns/\(fR l ns i).length=i/\H p=some (.lst (as.map V.ref))/\Das K H (((fR l ns i).map (·.1)).map dI) (as.map V.ref)/\H q=some (.lst us)/\Das K H ((fY (fR l ns i)).map zL) us/\∀ H',fL H H'->Q (.bl true) H'
noncomputable abbrev iV:Stmt:=top 57
theorem qx:gf ["_law_line","_law_train_here","_law_order","_law_rows"] ["_law_line","_law_train_here","_law_order","_law_rows"] (fM iV):=⟨rfl,rfl,rfl,by decide +kernel,rfl,by decide +kernel,by decide +kernel⟩
theorem lK:gF (fM iV) ["_law_line","_law_train_here","_law_order","_law_rows"] {kind:=.function,names:=[(Str.ofString ".0",.local),(Str.ofString "_law_standing",.local)],isGenerator:=false,isCoroutine:=false,more:=[]} ["_law_standing"] 1 [none]:=⟨rfl,by decide +kernel,by decide +kernel,by decide +kernel,rfl,by decide +kernel,rfl,by decide +kernel⟩
section
variable {P:Program}{w:World}{K:PySem.W.Frag}{mg:Str->Option Value}{base:Heap}{f:Addr}{fd:FuncData}
theorem qy (F:Fn K mg "_law_papers_hold" iV ["_law_line","_law_train_here","_law_order","_law_rows"] f fd)(B:Bm mg)
  (jT:Fn K mg "is_shut" nO ["line","train","standings"] f1 fd1) (qe:fV P w K mg base CX0 6 f1 fd1 ["line","train","standings"] (Bd K))
  (gI:Fn K mg "are_numbers" iN ["line","train","rows"] f2 fd2) (i8:fV P w K mg base CX0 5 f2 fd2 ["line","train","rows"] (xC K))
  (lg:Fn K mg "are_ways" ka ["line","train","rows"] f3 fd3) (qD:fV P w K mg base CX0 5 f3 fd3 ["line","train","rows"] (Br K)):
  fV P w K mg base CX0 7 f fd ["_law_line","_law_train_here","_law_order","_law_rows"] (wg K):=by
 refine F.F.ok qx (λvs H Q E h=>?_) (λcdv A outer s H vs Q E hr h=>?_)
 ·obtain⟨v,u,p,q,l,ns,i,as,us,rfl,_⟩:=h;rfl
 ·obtain⟨v,u,p,q,l,ns,i,as,us,rfl,hv,hu,ok,h24,hne,h6,T,hi,hp,DO,hq,DR,k⟩:=h
  have E0:=j6 ok T hne i
  have lz:=E0.len ok h6
  have SH:=tU ok T hne hi
  have AN:=yC ok T hne hi
  have NC:=FK ok T hne (i:=i)
  have CL:TH.Cls ((fR l ns i).map (·.1)):=TH.A3 ok h24 h6 E0.nd λt ht=>by
   obtain⟨e,he,rfl⟩:=ao.mp ht
   exact⟨(E0.tr e he).1,(E0.tr e he).2.1⟩
  have F0:∀ t∈(fR l ns i).map (·.1),t.length<=900:=λt ht=>by
   obtain⟨e,he,rfl⟩:=ao.mp ht
   have:=(E0.tr e he).2.1
   omega
  have rf:=ix (fR l ns i)
  have sl:((fR l ns i).map (·.1)).length<=4096000:=by rw[aa];exact lz
  generalize (fR l ns i).map (·.1)=ss at *
  generalize fY (fR l ns i)=rows at *
  have rl:rows.length<=4096000:=by have:=cf List.length rf;rw[aa]at this;omega
  have JU:∀ r∈rows,r.1.length<=900:=λr hr=>F0 _ (by rw[<-rf];exact ao.mpr ⟨r,hr,rfl⟩)
  refine⟨_,(fH (gR (PW.pt (yW (iC tN (fP qe (hr.mono (by decide)) rfl jT.m jT.F.kp jT.b .nil gv (fD (pv 0) (fD (pv 1) (fD (pv 2) fG)))) i9 (jW _)) (uB (iC tN (fP i8 (hr.mono (by decide)) rfl gI.m gI.F.kp gI.b .nil gv (fD (pv 0) (fD (pv 1) (fD (pv 3) fG)))) i9 (jW _)))))
 (fJ (fW i9)) fZ)
 (fH (gR (PW.pt (yW (iC tN (fP qe (hr.mono (by decide)) rfl jT.m jT.F.kp jT.b .nil gv (fD (pv 0) (fD (pv 1) (fD (jZ lh (pv 2) lx (lu (qZ om fI))) fG)))) i9 (jW _)) (uB (iC tN (fP i8 (hr.mono (by decide)) rfl gI.m gI.F.kp gI.b .nil gv (fD (pv 0) (fD (pv 1) (fD (jZ lh (pv 3) lx (lu (qZ om fI))) fG)))) i9 (jW _)))))
 (fJ (fW i9)) fZ)
 (fJ (fW (Bx Ic (fP qD (hr.mono (by decide)) rfl lg.m lg.F.kp lg.b .nil gv (fD (pv 0) (fD (pv 1) (fD (lJ (gq (pv 2)) rfl lK (.name (by decide)) (λ_ _ _ _=>(fO (i:=0) lK.nd rfl (Or.inl rfl))) (λ_ _ _ _=>g8) (λ_ _ _ _=>(gA (fD (pv 0) (fD fI (fD fI fG)))))) fG)))) i9 (jW _)))))),?_⟩
  refine nm2 λR1 hR1=>?_
  refine⟨_,rfl,_,rfl,_,rfl,_,_,_,l,ns,ss,rfl,hv,hu,iE.mpr ⟨p,_,rfl,SqL.of hp,DO⟩,ok,sl,F0,CL,λH1 s1=>?_⟩
  rw[sW (xr.mpr SH)]
  refine⟨true,true,rfl,rfl,_,rfl,jO ?_⟩
  refine⟨_,rfl,_,rfl,_,rfl,_,_,_,l,ns,rows,rfl,Da.same s1 hv,Da.same s1 hu,iE.mpr ⟨q,_,rfl,SqL.of (s1 _ _ hq),Das.same s1 DR⟩,ok,rl,JU,by rw[rf];exact CL,λH2 s2=>?_⟩
  rw[sW AN]
  refine⟨true,true,rfl,rfl,_,rfl,jO ?_⟩
  have S2:=s1.trans s2
  clear s1 s2 H1
  refine⟨_,rfl,_,rfl,_,rfl,_,rfl,_,rfl,p,_,rfl,SqL.of (S2 _ _ hp),λo no=>?_⟩
  rw[zM]
  have s3:=fF (o:=.lst (as.map V.ref).dropLast) no
  have ho:=fE (H:=H2) (a:=o) (o:=.lst (as.map V.ref).dropLast)
  have S3:=S2.trans s3
  generalize upd H2 o _=H3 at s3 ho S3 ⊢
  refine⟨_,_,_,l,ns,ss.dropLast,rfl,Da.same S3 hv,Da.same S3 hu,iE.mpr ⟨o,_,rfl,SqL.of ho,by rw[List.map_dropLast];exact zK (Das.same S3 DO)⟩,ok,by rw[bM];omega,λt ht=>F0 t ((bT _).mem ht),CL.sub (bT _),λH4 s4=>?_⟩
  rw[lW λz=>NC (xr.mp z)]
  refine⟨false,false,rfl,rfl,_,rfl,jO ?_⟩
  have S4:=S3.trans s4
  clear s4
  refine⟨_,rfl,_,rfl,_,rfl,_,rfl,_,rfl,q,_,rfl,SqL.of (S4 _ _ hq),λo2 no2=>?_⟩
  rw[zM]
  have s5:=fF (o:=.lst us.dropLast) no2
  have ho2:=fE (H:=H4) (a:=o2) (o:=.lst us.dropLast)
  have S5:=S4.trans s5
  generalize upd H4 o2 _=H5 at s5 ho2 S5 ⊢
  have rfd:rows.dropLast.map (·.1)=ss.dropLast:=by rw[List.map_dropLast,rf]
  refine⟨_,_,_,l,ns,rows.dropLast,rfl,Da.same S5 hv,Da.same S5 hu,iE.mpr ⟨o2,_,rfl,SqL.of ho2,by rw[List.map_dropLast];exact zK (Das.same S5 DR)⟩,ok,by rw[bM];omega,λr hr=>JU r ((bT _).mem hr),by rw[rfd];exact CL.sub (bT _),λH6 s6=>?_⟩
  rw[lW λz=>NC (by have:=(vD.mp z).1;rw[rfd]at this;exact this)]
  refine⟨false,false,rfl,rfl,_,rfl,jO ?_⟩
  have S6:=S5.trans s6
  clear s6
  refine hR1 _ _ _ ?_
  have hA:SqL K H6 p (as.map V.ref):=SqL.of (S6 _ _ hp)
  have DO6:=Das.same S6 DO
  have al:(as.map V.ref).length=ss.length:=by have:=Dgs.length DO;rw[this,aa]
  refine⟨_,rfl,_,rfl,_,rfl,p,rfl,⟨_,hA⟩,λw nw=>?_⟩
  refine rD (K:=K) ss.length ss (λst=>dW (st,0,0)) nw rfl (j4 (by omega)) (λi G s hi=>(gK hA).go i G s (by omega)) (λG s=>by have:=(gK hA).stop G s;rw[al]at this;exact this) ?_ ?_
  ·intro i y st G G' sG ⟨vs',hl'⟩ yy hd P1 P0 kk
   obtain⟨rfl,hy⟩:=(gK hA).yld i G y G' sG (by have:=(af.mp hd).1;omega) yy
   obtain⟨st',ad,hst,rfl,hL⟩:=BE DO6 hy
   rw[hd]at hst
   cases hst
   refine iX ?_
   refine⟨_,rfl,by show 3<=sizeLine;decide,λc nc=>kk _ _ (fF nc) ?_⟩
   have hcw:c≠w:=λe=>by rw[e,hl']at nc;cases nc
   refine ie.mpr ⟨c,_,rfl,SqT.of (by rw[gS hcw,fE]),gm.mpr ⟨_,_,rfl,ij.mpr ⟨ad,rfl,(qT (sG.trans (fF nc)) nw).seq hL⟩,Dgs.two (iB.mpr rfl) (iB.mpr rfl)⟩⟩
  intro vs1 H7 s7 h7 D7
  have e7:(ss.map λst=>dW (st,0,0))=(ss.map λs=>(s,(0:Int),(0:Int))).map dW:=by rw[bo];rfl
  have e8:(ss.map λs=>(s,(0:Int),(0:Int))).map (·.1)=ss:=by rw[bo];exact List.map_id ss
  rw[e7]at D7
  refine⟨_,_,_,l,ns,ss.map λs=>(s,(0:Int),(0:Int)),rfl,Da.same (S6.trans s7) hv,Da.same (S6.trans s7) hu,iE.mpr ⟨w,vs1,rfl,SqL.of h7,Das.same ja D7⟩,ok,by rw[aa];omega,λr hr=>?_,by rw[e8];exact CL,λH8 s8=>?_⟩
  ·obtain⟨t,ht,rfl⟩:=ao.mp hr
   exact F0 t ht
  rw[sW (Ac SH)]
  exact⟨true,true,rfl,rfl,k H8 (S6.trans (s7.trans s8))⟩
end
noncomputable def words:List Str:=["line","train","move","piece","many","text","row"]
noncomputable def Bf (cs:List Addr):Sp:=λvs H Q _=>∃ (e c:Addr) (j:Nat) (x:Str),vs = [.ref e]/\H e=some (vq e c)/\cs[j]? = some c/\words[j]? = some x/\∀ H',fL H H'->Q (.str x) H'
structure Ask (l:Ln)(ns gs:List Int)(way:Int)(H:Hp)(Q:VK):Prop where
 told:(way=0\/way=3\/gOk l ns gs)->(∃ i,(fR l ns i).length=i/\i<=300)->∀ H',fL H H'->Q (.str "told") H'
 many:(way=0\/way=3\/gOk l ns gs)->(∃ i,300<(fR l ns i).length)->∀ H',fL H H'->Q (.str "many") H'
 bad:(way=1\/way=2)->¬gOk l ns gs->∀ H',fL H H'->Q (.str "train") H'
noncomputable def yQ (K:PySem.W.Frag):Sp:=λvs H Q _=>∃ (way:Int) (v u g:V) (l:Ln) (ns gs:List Int),vs = [.int way,v,u,g]/\(way=0\/way=1\/way=2\/way=3)/\Da K H (dL l) v/\Da K H (dI ns) u/\Da K H (dI gs) g/\gj l/\ns≠ []/\ns.length<=900/\jf l ns/\gs.length<=900/\Ask l ns gs way H Q
noncomputable abbrev ot:Stmt:=top 52
theorem oU:gf ["_law_kept_here","_law_found"] ["_law_kept_here"] (fM ot):=⟨rfl,rfl,rfl,by decide +kernel,rfl,by decide +kernel,by decide +kernel⟩
noncomputable abbrev nh:Stmt:=top 58
theorem lY:gf ["_law_way","_law_line","_law_train_here","_law_goal","_law_kept_here","e"] ["_law_way","_law_line","_law_train_here","_law_goal"] (fM nh):=⟨rfl,rfl,rfl,by decide +kernel,rfl,by decide +kernel,by decide +kernel⟩
section
variable {P:Program}{w:World}{K:PySem.W.Frag}{mg:Str->Option Value}{base:Heap}{f:Addr}{fd:FuncData}{D c1 c2 c3 c4 c5 c6 c7:Addr}
theorem IX (XS:Xs K mg D c1 c2 c3 c4 c5 c6 c7):∀ c∈ [c1,c2,c3,c4,c5,c6,c7],ExC K c:=λc hc=>by
 simp only[aE,cT,or_false]at hc
 rcases hc with rfl |rfl |rfl |rfl |rfl |rfl |rfl
 ·exact XS.FD.e
 ·exact XS.jm.e
 ·exact XS.FC.e
 ·exact XS.B7.e
 ·exact XS.p8.e
 ·exact XS.Fz.e
 ·exact XS.Hs.e
theorem bits {cs:List Addr}(nd:cs.Nodup){c:Addr}{j:Nat}(hj:cs[j]? = some c):cs.map (λd=>decide (c=d))=(List.range cs.length).map λi=>decide (i=j):=by
 refine ef λi=>?_
 rw[ah,ah]
 by_cases hi:i<cs.length
 ·rw[eW hi,ag hi]
  obtain⟨hl,e⟩:=af.mp hj
  show some (decide (c=cs[i]))=some (decide (i=j))
  congr 1
  by_cases h:i=j
  ·subst h;simp[e]
  ·have:c≠cs[i]:=λz=>h ((cE nd).mp (z.symm.trans e.symm))
   simp[h,this]
 ·rw[bg (by omega),bg (by simpa using hi)];rfl
theorem bit_count:∀ j,j<7->((List.range 7).map λi=>decide (i=j)).count true=1:=by decide
theorem Je:∀ j,j<7->((List.range 7).map λi=>decide (i=j))[j]? = some true:=by decide
theorem Jd:∀ j,j<7->∀ m,m<j->((List.range 7).map λi=>decide (i=j))[m]? = some false:=by decide
theorem zf (F:Fn K mg "_law_kept" ot ["_law_kept_here"] f fd)(XS:Xs K mg D c1 c2 c3 c4 c5 c6 c7)(B:Bl mg):fV P w K mg base CX0 1 f fd ["_law_kept_here"] (Bf [c1,c2,c3,c4,c5,c6,c7]):=by
 refine F.F.ok oU (λvs H Q E h=>?_) (λcdv A outer s H vs Q E hr h=>?_)
 ·obtain⟨e,c,j,x,rfl,_⟩:=h;rfl
 ·obtain⟨e,c,j,x,rfl,he,hc,hx,q⟩:=h
  have hm:c∈ [c1,c2,c3,c4,c5,c6,c7]:=au hc
  have hj:j<7:=(af.mp hc).1
  have hE:=IX XS c hm
  have k1:=XS.eq c hm
  have hb:=bits XS.nd hc
  refine⟨_,(fH (gR (sf (uD (gd iZ rfl B.isinstance df (fD (pv 0) (fD (Ga (v:=.ty "ValueError") rfl XS.VE tH rfl) fG)))))
 (fJ (fW gO)) fZ)
 (fH (fS (i:=1) oU.nd rfl (Or.inl rfl) (gJ (fD (gd iZ rfl B.isinstance df (fD (pv 0) (fD (me (v:=.ref _) rfl XS.FD.m rfl) fG))) (fD (gd iZ rfl B.isinstance df (fD (pv 0) (fD (me (v:=.ref _) rfl XS.jm.m rfl) fG))) (fD (gd iZ rfl B.isinstance df (fD (pv 0) (fD (me (v:=.ref _) rfl XS.FC.m rfl) fG))) (fD (gd iZ rfl B.isinstance df (fD (pv 0) (fD (me (v:=.ref _) rfl XS.B7.m rfl) fG))) fG))))))
 (fH (fS (i:=1) oU.nd rfl (Or.inl rfl) (fT nA (pv 1) (gJ (fD (gd iZ rfl B.isinstance df (fD (pv 0) (fD (me (v:=.ref _) rfl XS.p8.m rfl) fG))) (fD (gd iZ rfl B.isinstance df (fD (pv 0) (fD (me (v:=.ref _) rfl XS.Fz.m rfl) fG))) (fD (gd iZ rfl B.isinstance df (fD (pv 0) (fD (me (v:=.ref _) rfl XS.Hs.m rfl) fG))) fG))))))
 (fH (gR (iC zd (kK aH PySem.F.slot_list_count PySem.F.type_list_count Ey (pv 1) (fD i9 fG)) fI (jW _))
 (fJ (fW gO)) fZ)
 (fJ (fW (gY ig (gJ (fD gO (fD gO (fD gO (fD gO (fD gO (fD gO (fD gO fG)))))))) (kK aH PySem.F.slot_list_index PySem.F.type_list_index Ex (pv 1) (fD i9 fG)) (λ_ _=>rfl)))))))),?_⟩
  refine⟨_,rfl,e,c,_,_,true,rfl,he,hE,rfl,λ_ h=>h,XS.val c hm,_,rfl,?_⟩
  refine jO ?_
  refine⟨_,rfl,e,c,_,_,_,rfl,he,hE,rfl,λ_ h=>h,k1 c1 (by simp),_,rfl,e,c,_,_,_,rfl,he,hE,rfl,λ_ h=>h,k1 c2 (by simp),_,rfl,e,c,_,_,_,rfl,he,hE,rfl,λ_ h=>h,k1 c3 (by simp),
   _,rfl,e,c,_,_,_,rfl,he,hE,rfl,λ_ h=>h,k1 c4 (by simp),by show 4<=sizeLine;decide,λp1 n1=>?_⟩
  have s1:=fF (o:=.lst [.bl (decide (c=c1)),.bl (decide (c=c2)),.bl (decide (c=c3)),.bl (decide (c=c4))]) n1
  refine⟨_,rfl,_,rfl,e,c,_,_,_,rfl,s1 _ _ he,hE,rfl,λ_ h=>h,k1 c5 (by simp),_,rfl,e,c,_,_,_,rfl,s1 _ _ he,hE,rfl,λ_ h=>h,k1 c6 (by simp),_,rfl,e,c,_,_,_,rfl,s1 _ _ he,hE,rfl,λ_ h=>h,k1 c7 (by simp),
   by show 3<=sizeLine;decide,λp2 n2=>?_⟩
  have s2:=fF (o:=.lst [.bl (decide (c=c5)),.bl (decide (c=c6)),.bl (decide (c=c7))]) n2
  refine⟨p1,p2,_,_,rfl,rfl,s2 _ _ fE,fE,by show 7<=sizeLine;decide,λp3 n3=>?_⟩
  have S12:=s1.trans s2
  generalize upd (upd H p1 _) p2 _=G at n3 S12 ⊢
  have s3:=fF (o:=.lst (([c1,c2,c3,c4,c5,c6,c7].map λd=>decide (c=d)).map V.bl)) n3
  have hp3:upd G p3 (.lst (([c1,c2,c3,c4,c5,c6,c7].map λd=>decide (c=d)).map V.bl)) p3=some (.lst (((List.range 7).map λi=>decide (i=j)).map V.bl)):=by
   rw[fE,hb];rfl
  have S:=S12.trans s3
  refine⟨_,rfl,.inl ⟨rfl,_,SqL.of hp3⟩,p3,_,true,rfl,rfl,hp3,rfl,_,rfl,ip (λz=>?_) (λ_=>?_)⟩
  ·have Pg:=bit_count j hj
   exact absurd z (by
    show ¬((!decide (V.int (((((List.range 7).map λi=>decide (i=j)).count true:Nat)):Int)=V.int 1))=true)
    rw[Pg];simp)
  refine⟨by show 7<=sizeLine;decide,λp4 n4=>?_⟩
  have s4:=fF (o:=.lst [.str "line",.str "train",.str "move",.str "piece",.str "many",.str "text",.str "row"]) n4
  refine⟨_,rfl,.inl ⟨rfl,_,SqL.of (s4 _ _ hp3)⟩,p3,_,true,j,rfl,rfl,s4 _ _ hp3,Je j hj,Jd j hj,?_⟩
  refine⟨p4,_,_,_,rfl,rfl,SqL.of fE,?_,q _ (S.trans s4)⟩
  have e:[V.str "line",.str "train",.str "move",.str "piece",.str "many",.str "text",.str "row"][j]? = some (V.str x):=by
   have e:[V.str "line",.str "train",.str "move",.str "piece",.str "many",.str "text",.str "row"]=words.map V.str:=rfl
   rw[e,ah,hx];rfl
  exact p7 e
theorem xX (F:Fn K mg "_law_asked" nh ["_law_way","_law_line","_law_train_here","_law_goal"] f fd)(XS:Xs K mg D c1 c2 c3 c4 c5 c6 c7)(B:Bm mg)
  (mD:Fn K mg "come_to" pT ["line","train"] f1 fd1) (sL:fV P w K mg base (CXr P w base) 5 f1 fd1 ["line","train"] (Bj K c5))
  (kF:Fn K mg "least" qU ["line","train","goal"] f2 fd2) (qc:fV P w K mg base (CXr P w base) 5 f2 fd2 ["line","train","goal"] (ug K c2 c5))
  (oj:Fn K mg "fewest" oX ["line","train","goal"] f3 fd3) (vK:fV P w K mg base (CXr P w base) 6 f3 fd3 ["line","train","goal"] (wm K c2 c5))
  (sM:Fn K mg "turn" xH ["line","train"] f4 fd4) (A6:fV P w K mg base (CXr P w base) 6 f4 fd4 ["line","train"] (yK K c2 c5))
  (kZ:Fn K mg "_law_kept" ot ["_law_kept_here"] f5 fd5):fV P w K mg base CX0 7 f fd ["_law_way","_law_line","_law_train_here","_law_goal"] (yQ K):=by
 have A7:fV P w K mg base CX0 1 f5 fd5 ["_law_kept_here"] (Bf [c1,c2,c3,c4,c5,c6,c7]):=zf kZ XS B.toBl
 refine F.F.ok lY (λvs H Q E h=>?_) (λcdv A outer s H vs Q E hr h=>?_)
 ·obtain⟨way,v,u,g,l,ns,gs,rfl,_⟩:=h;rfl
 ·obtain⟨way,v,u,g,l,ns,gs,rfl,hw,hv,hu,hg,ok,hne,hz,T,gl,k⟩:=h
  refine⟨_,(fH (fS (i:=4) lY.nd rfl (Or.inl rfl) xO)
 (fH (HQ (j:=5) rfl rfl rfl lY.nd rfl rfl rfl XS.Dl.m (λpn W E hW=>(fH (gR (gC (kP (pv 0) fI))
 (fJ (gX (o5 sL (hr.mono (by decide)) rfl mD.m mD.F.kp mD.b .nil hW (fD (pv 1) (fD (pv 2) fG))))) fZ)
 (fH (gR (gC (kP (pv 0) fI))
 (fJ (gX (o5 qc (hr.mono (by decide)) rfl kF.m kF.F.kp kF.b .nil hW (fD (pv 1) (fD (pv 2) (fD (pv 3) fG)))))) fZ)
 (fH (gR (gC (kP (pv 0) fI))
 (fJ (gX (o5 vK (hr.mono (by decide)) rfl oj.m oj.F.kp oj.b .nil hW (fD (pv 1) (fD (pv 2) (fD (pv 3) fG)))))) fZ)
 (fJ (gR (gC (kP (pv 0) fI))
 (fJ (gX (o5 A6 (hr.mono (by decide)) rfl sM.m sM.F.kp sM.b .nil hW (fD (pv 1) (fD (pv 2) fG))))) fZ)))))) (λe=>(fJ (fS (i:=4) lY.nd rfl (Or.inl rfl) (pv 5)))))
 (fH (gR (gC (Ed (pv 4)))
 (fJ (fW gO)) fZ)
 (fJ (fW (fP A7 (hr.mono (by decide)) rfl kZ.m kZ.F.kp kZ.b .nil gv (fD (pv 4) fG))))))),?_⟩
  rcases hw with rfl |rfl |rfl |rfl
  ·refine⟨_,rfl,_,_,rfl,rfl,_,rfl,nC ?_⟩
   refine⟨_,rfl,_,rfl,_,_,l,ns,rfl,hv,hu,ok,hne,hz,T,λi q bs H' hi i3 FR=>?_,λzi H' s' e he=>?_⟩
   ·refine⟨_,rfl,_,_,rfl,rfl,_,rfl,jO ⟨_,rfl,_,_,rfl,rfl,_,rfl,jO ⟨_,rfl,_,_,rfl,rfl,_,rfl,jO ?_⟩⟩⟩
    exact⟨_,rfl,_,rfl,nC (k.told (.inl rfl) ⟨i,hi,i3⟩ H' FR.same)⟩
   ·refine⟨e,c5,rfl,rfl,XS.cat c5 (by simp),_,rfl,_,rfl,_,rfl,jO ?_⟩
    exact⟨_,rfl,e,c5,4,_,rfl,fE,rfl,rfl,λH2 s2=>k.many (.inl rfl) zi H2 (s'.trans ((fF he).trans s2))⟩
  ·refine⟨_,rfl,_,_,rfl,rfl,_,rfl,jO ⟨_,rfl,_,_,rfl,rfl,_,rfl,nC ?_⟩⟩
   have fin:∀ i H',(fR l ns i).length=i->i<=300->gOk l ns gs->fL H H'->Q (.str "told") H':=λi H' hi i3 z s'=>k.told (.inr (.inr z)) ⟨i,hi,i3⟩ H' s'
   refine⟨_,rfl,_,rfl,_,rfl,_,_,_,l,ns,gs,rfl,hv,hu,hg,ok,hne,hz,T,gl,?_⟩
   refine⟨λz H' s' e he=>?_,λz zi H' s' e he=>?_,λz i hi i3 hn r q bs H' FR hr0 nr=>?_,λz i hi i3 hn r q1 run q2 us H' s' ra nq pt R qq hr0 nr=>?_⟩
   ·refine⟨e,c2,rfl,rfl,XS.cat c2 (by simp),_,rfl,_,rfl,_,rfl,jO ?_⟩
    exact⟨_,rfl,e,c2,1,_,rfl,fE,rfl,rfl,λH2 s2=>k.bad (.inl rfl) z H2 (s'.trans ((fF he).trans s2))⟩
   ·refine⟨e,c5,rfl,rfl,XS.cat c5 (by simp),_,rfl,_,rfl,_,rfl,jO ?_⟩
    exact⟨_,rfl,e,c5,4,_,rfl,fE,rfl,rfl,λH2 s2=>k.many (.inr (.inr z)) zi H2 (s'.trans ((fF he).trans s2))⟩
   ·refine⟨_,rfl,_,_,rfl,rfl,_,rfl,jO ⟨_,rfl,_,_,rfl,rfl,_,rfl,jO ?_⟩⟩
    exact⟨_,rfl,_,rfl,nC (fin i H' hi i3 z FR.same)⟩
   ·refine⟨_,rfl,_,_,rfl,rfl,_,rfl,jO ⟨_,rfl,_,_,rfl,rfl,_,rfl,jO ?_⟩⟩
    exact⟨_,rfl,_,rfl,nC (fin i H' hi i3 z s')⟩
  ·refine⟨_,rfl,_,_,rfl,rfl,_,rfl,jO ⟨_,rfl,_,_,rfl,rfl,_,rfl,jO ⟨_,rfl,_,_,rfl,rfl,_,rfl,nC ?_⟩⟩⟩
   have fin:∀ i H',(fR l ns i).length=i->i<=300->gOk l ns gs->fL H H'->Q (.str "told") H':=λi H' hi i3 z s'=>k.told (.inr (.inr z)) ⟨i,hi,i3⟩ H' s'
   refine⟨_,rfl,_,rfl,_,rfl,_,_,_,l,ns,gs,rfl,hv,hu,hg,ok,hne,hz,T,gl,?_⟩
   refine⟨λz H' s' e he=>?_,λz zi H' s' e he=>?_,λz i hi i3 hn r q bs H' FR hr0 nr=>?_,λz i hi i3 hn r t q1 run q2 us H' he s' ra nq pt R qq hr0 nr=>?_⟩
   ·refine⟨e,c2,rfl,rfl,XS.cat c2 (by simp),_,rfl,_,rfl,_,rfl,jO ?_⟩
    exact⟨_,rfl,e,c2,1,_,rfl,fE,rfl,rfl,λH2 s2=>k.bad (.inr rfl) z H2 (s'.trans ((fF he).trans s2))⟩
   ·refine⟨e,c5,rfl,rfl,XS.cat c5 (by simp),_,rfl,_,rfl,_,rfl,jO ?_⟩
    exact⟨_,rfl,e,c5,4,_,rfl,fE,rfl,rfl,λH2 s2=>k.many (.inr (.inr z)) zi H2 (s'.trans ((fF he).trans s2))⟩
   ·exact⟨_,rfl,_,_,rfl,rfl,_,rfl,jO ⟨_,rfl,_,rfl,nC (fin i H' hi i3 z FR.same)⟩⟩
   ·exact⟨_,rfl,_,_,rfl,rfl,_,rfl,jO ⟨_,rfl,_,rfl,nC (fin i H' hi i3 z s')⟩⟩
  ·refine⟨_,rfl,_,_,rfl,rfl,_,rfl,jO ⟨_,rfl,_,_,rfl,rfl,_,rfl,jO ⟨_,rfl,_,_,rfl,rfl,_,rfl,jO ⟨_,rfl,_,_,rfl,rfl,_,rfl,nC ?_⟩⟩⟩⟩
   have it:gOk l ns (ns.reverse.map oth):=⟨⟨by simpa using hne,Cj ok T⟩,by simp⟩
   refine⟨_,rfl,_,rfl,_,_,l,ns,rfl,hv,hu,ok,hne,hz,T,?_⟩
   refine⟨λz=>absurd it z,λz zi H' s' e he=>?_,λz i hi i3 hn r q bs H' FR hr0 nr=>?_,λz i hi i3 hn r q1 run q2 us H' s' ra nq pt R qq hr0 nr=>?_⟩
   ·refine⟨e,c5,rfl,rfl,XS.cat c5 (by simp),_,rfl,_,rfl,_,rfl,jO ?_⟩
    exact⟨_,rfl,e,c5,4,_,rfl,fE,rfl,rfl,λH2 s2=>k.many (.inr (.inl rfl)) zi H2 (s'.trans ((fF he).trans s2))⟩
   ·exact⟨_,rfl,_,rfl,nC (k.told (.inr (.inl rfl)) ⟨i,hi,i3⟩ H' FR.same)⟩
   ·exact⟨_,rfl,_,rfl,nC (k.told (.inr (.inl rfl)) ⟨i,hi,i3⟩ H' s')⟩
end
noncomputable def xy (K:PySem.W.Frag):Sp:=λvs H Q _=>∃ (a:Addr) (ns:List Int),vs = [.ref a]/\SqL K H a (ns.map V.int)/\∀ H',Q (.bl true) H'
noncomputable def dH2 (l:Ln)(tr:List Int):PyData:=.tuple [dL l,dI tr]
theorem AD (l:Ln)(tr:List Int):OkD (dH2 l tr):=by
 have h1:=J6 l
 have h2:=uS tr
 refine⟨?_,?_⟩
 ·simp only[dH2,PyData.canLay0,PyData.canLayAll0,h1.1,h2.1,Bool.and_true]
 ·have d1:=BU l
  have d2:(dI tr).depth<=1:=by
   simp only[dI,PyData.depth]
   have:=iY (f:=PyData.int) (k:=0) (λ_=>by simp[PyData.depth]) tr
   omega
  simp only[dH2,PyData.depth,PyData.depthAll]
  omega
noncomputable abbrev wA:Stmt:=top 59
theorem j8:gf ["_law_script","_law_number","_law_line","_law_wide","_law_train_here","_law_handed","_law_order","_law_rows","_law_due","_law_way","_law_goal"] ["_law_script"] (fM wA):=⟨rfl,rfl,rfl,by decide +kernel,rfl,by decide +kernel,by decide +kernel⟩
section
variable {P:Program}{w:World}{K:PySem.W.Frag}{mg:Str->Option Value}{base:Heap}{f:Addr}{fd:FuncData}
theorem Ig {f6 f7 f8 f9:Addr}{fd6 fd7 fd8 fd9:FuncData}(F:Fn K mg "law" wA ["_law_script"] f fd)(B:Bm mg)
  (gU:Fn K mg "_law_cell_at" lp ["_law_script","_law_k"] f1 fd1) (gh:Fn K mg "_law_mix" kO ["_law_cell","_law_k"] f2 fd2)
  (jS:Fn K mg "_law_rounds" ky ["_law_number"] f3 fd3) (oI:fV P w K mg base CX0 2 f3 fd3 ["_law_number"] (qP K))
  (kj:Fn K mg "_law_dense" m9 ["_law_number"] f4 fd4) (pK:fV P w K mg base CX0 2 f4 fd4 ["_law_number"] (qP K))
  (jz:Fn K mg "_law_renamed" ll ["_law_line","_law_cell"] f5 fd5) (nG:fV P w K mg base CX0 2 f5 fd5 ["_law_line","_law_cell"] (ue K))
  (kg:Fn K mg "_law_train" kc ["_law_line","_law_cell","_law_length"] f6 fd6) (pI:fV P w K mg base CX0 2 f6 fd6 ["_law_line","_law_cell","_law_length"] (yL K))
  (mz:Fn K mg "_law_web" nN ["_law_line","_law_train_here"] f7 fd7) (sF:fV P w K mg base CX0 3 f7 fd7 ["_law_line","_law_train_here"] (DF K))
  (iG:Fn K mg "_law_papers_hold" iV ["_law_line","_law_train_here","_law_order","_law_rows"] f8 fd8) (kE:fV P w K mg base CX0 7 f8 fd8 ["_law_line","_law_train_here","_law_order","_law_rows"] (wg K))
  (iq:Fn K mg "_law_asked" nh ["_law_way","_law_line","_law_train_here","_law_goal"] f9 fd9) (lL:fV P w K mg base CX0 7 f9 fd9 ["_law_way","_law_line","_law_train_here","_law_goal"] (yQ K)):
  fV P w K mg base CX0 8 f fd ["_law_script"] (xy K):=by
 have jx:fV P w K mg base CX0 1 f2 fd2 ["_law_cell","_law_k"] uf:=oz gh B.toBl
 have nH:fV P w K mg base CX0 1 f1 fd1 ["_law_script","_law_k"] (Bo K):=uL gU B.toBl
 refine F.F.ok j8 (λvs H Q E h=>?_) (λcdv A outer s H vs Q E hr h=>?_)
 ·obtain⟨a,ns,rfl,_⟩:=h;rfl
 ·obtain⟨a,ns,rfl,hS,k⟩:=h
  refine⟨_,(fH (fS (i:=1) j8.nd rfl (Or.inl rfl) (fP jx (hr.mono (by decide)) rfl gh.m gh.F.kp gh.b .nil gv (fD (fP nH (hr.mono (by decide)) rfl gU.m gU.F.kp gU.b .nil gv (fD (pv 0) (fD fI fG))) (fD fI fG))))
 (fH (fS (i:=2) j8.nd rfl (Or.inl rfl) (fP oI (hr.mono (by decide)) rfl jS.m jS.F.kp jS.b .nil gv (fD (pv 1) fG)))
 (fH (fS (i:=3) j8.nd rfl (Or.inl rfl) (fT uI fI (fT i6 (fT i6 (fT iW (pv 1) fI) fI) fI)))
 (fH (gR (gC (kP (fT i6 (fT iW (pv 1) fI) fI) fI))
 (fH (fS (i:=2) j8.nd rfl (Or.inl rfl) (fP pK (hr.mono (by decide)) rfl kj.m kj.F.kp kj.b .nil gv (fD (fT iW (pv 1) fI) fG)))
 (fJ (fS (i:=3) j8.nd rfl (Or.inl rfl) (fT uI fI (fT i6 (fT iW (pv 1) fI) fI))))) fZ)
 (fH (fS (i:=2) j8.nd rfl (Or.inl rfl) (fP nG (hr.mono (by decide)) rfl jz.m jz.F.kp jz.b .nil gv (fD (pv 2) (fD (fP nH (hr.mono (by decide)) rfl gU.m gU.F.kp gU.b .nil gv (fD (pv 0) (fD fI fG))) fG))))
 (fH (fS (i:=4) j8.nd rfl (Or.inl rfl) (fP pI (hr.mono (by decide)) rfl kg.m kg.F.kp kg.b .nil gv (fD (pv 2) (fD (fP nH (hr.mono (by decide)) rfl gU.m gU.F.kp gU.b .nil gv (fD (pv 0) (fD fI fG))) (fD (pv 3) fG)))))
 (fH (fS (i:=5) j8.nd rfl (Or.inl rfl) (gA (fD (gA (fD (gY i7 (pv 2) fI (λ_ _=>rfl)) (fD (fX iM rfl B.list de (fD (gY i7 (pv 2) fI (λ_ _=>rfl)) fG)) fG))) (fD (fX iM rfl B.list de (fD (pv 4) fG)) fG))))
 (fH (oZ (fP sF (hr.mono (by decide)) rfl mz.m mz.F.kp mz.b .nil gv (fD (pv 2) (fD (pv 4) fG))) (iu (n:=2) rfl (fQ (fO (i:=6) j8.nd rfl (Or.inl rfl)) (fQ (fO (i:=7) j8.nd rfl (Or.inl rfl)) gQ))))
 (fH (fS (i:=8) j8.nd rfl (Or.inl rfl) (gY ig (gJ (fD gO (fD gO fG))) (fX Dk rfl B.int boot_int (fD (HY (uF (gd gw rfl B.len cu (fD (pv 6) fG)) fI)) fG)) (λ_ _=>rfl)))
 (fH (gR (sf (uD (fP kE (hr.mono (by decide)) rfl iG.m iG.F.kp iG.b .nil gv (fD (pv 2) (fD (pv 4) (fD (pv 6) (fD (pv 7) fG)))))))
 (fJ (fW i9)) fZ)
 (fH (ir aN rfl (nT rfl B.range (fD fI fG)) (fO (i:=9) j8.nd rfl (Or.inl rfl))
 (fJ (gR (iC zd (fP lL (hr.mono (by decide)) rfl iq.m iq.F.kp iq.b .nil gv (fD (pv 9) (fD (gY i7 (pv 5) fI (λ_ _=>rfl)) (fD (gY i7 (pv 5) fI (λ_ _=>rfl)) (fD (fX iM rfl B.list de (fD (pv 4) fG)) fG))))) (pv 8) (jW _))
 (fJ (fW i9)) fZ)))
 (fH (ir aN rfl (gq (gJ (fD (fT nA (pv 4) (gJ (fD (gY ig (pv 4) fI (λ_ _=>rfl)) fG))) (fD (fT nA (jZ lh (pv 4) lx (lu (qZ om fI))) (gJ (fD (fT kb fI (gY i7 (pv 2) fI (λ_ _=>rfl))) fG))) (fD (fT sh (gJ (fD (qZ om fI) fG)) (gd gw rfl B.len cu (fD (pv 4) fG))) (fD (gJ fG) fG)))))) (fO (i:=10) j8.nd rfl (Or.inl rfl))
 (fJ (ir aN rfl (gq (gJ (fD fI (fD fI fG)))) (fO (i:=9) j8.nd rfl (Or.inl rfl))
 (fJ (gR (iC zd (fP lL (hr.mono (by decide)) rfl iq.m iq.F.kp iq.b .nil gv (fD (pv 9) (fD (gY i7 (pv 5) fI (λ_ _=>rfl)) (fD (gY i7 (pv 5) fI (λ_ _=>rfl)) (fD (pv 10) fG))))) gO (jW _))
 (fJ (fW i9)) fZ)))))
 (fH (gR (PW.pt (xJ (gC (uF (gd gw rfl B.len cu (fD (pv 4) fG)) fI)) (tK (iC zd (fP lL (hr.mono (by decide)) rfl iq.m iq.F.kp iq.b .nil gv (fD fI (fD (gY i7 (pv 5) fI (λ_ _=>rfl)) (fD (gY i7 (pv 5) fI (λ_ _=>rfl)) (fD (jZ lh (pv 4) (lu fI) lx) fG))))) gO (jW _)))))
 (fJ (fW i9)) fZ)
 (fJ (fW (Bx (Ef hr.units) (pv 5) (gA (fD (pv 2) (fD (pv 4) fG))) (jW _))))))))))))))))),nm3 λR1 hR1=>?_⟩
  refine⟨_,rfl,a,ns,0,rfl,hS,by decide,λc0=>⟨c0,0,rfl,by decide,by decide,λn _ _=>?_⟩⟩
  refine⟨_,rfl,n,rfl,λv0 l0 H1 s1 G0 hv0=>?_⟩
  refine⟨_,rfl,_,_,rfl,rfl,⟨by decide,by decide⟩,_,_,rfl,rfl,(by show(0:Int)<8;decide),_,_,rfl,rfl,(by show(0:Int)<5;decide),_,_,rfl,rfl,?_⟩
  refine hR1 _ _ _ (cut (λσ G=>∃ (v:V) (l:Ln) (wd:Int),σ = [some (.ref a),some (.int n),some v,some (.int wd),none,none,none,none,none,none,none]/\fL H G/\tw l/\Da K G (dL l) v/\0<=wd/\wd<=6) (λN R B' C kN _=>?_) ?_)
  ·refine⟨_,rfl,_,_,rfl,rfl,⟨by decide,by decide⟩,_,_,rfl,rfl,(by show(0:Int)<2;decide),_,_,rfl,rfl,_,rfl,ip (λ_=>?_) (λ_=>?_)⟩
   ·refine⟨_,rfl,_,_,rfl,rfl,⟨by decide,by decide⟩,_,rfl,λv1 l1 H2 s2 G1 hv1=>?_⟩
    refine⟨_,rfl,_,_,rfl,rfl,⟨by decide,by decide⟩,_,_,rfl,rfl,(by show(0:Int)<3;decide),_,_,rfl,rfl,?_⟩
    exact kN _ _ ⟨v1,l1,_,rfl,s1.trans s2,G1,hv1,by show 0<=6-n/24%3;omega,by show 6-n/24%3<=6;omega⟩
   ·exact kN _ _ ⟨v0,l0,_,rfl,s1,G0,hv0,by show 0<=6-n/24%8%5;omega,by show 6-n/24%8%5<=6;omega⟩
  rintro σ G ⟨v1,l1,wd,rfl,S1,G1,hv1,w0,w6⟩
  clear s1 hv0 G0 hR1 R1
  refine nm3 λR2 hR2=>?_
  refine⟨_,rfl,_,rfl,a,ns,1,rfl,S1.seq hS,by decide,λc1=>⟨v1,l1,c1,rfl,hv1,G1,λv js nmx es H2 s2 hv R hpm=>?_⟩⟩
  have GL:tw (l1.1,js):=Ren.line (m:=l1.1) (js:=l1.2) R G1 hpm
  generalize (l1.1,js)=l at hv GL
  have ok:=GL.Ip
  have h24:=GL.len
  obtain⟨al,bl,rfl,hlt,us,hll,hlq⟩:=oF hv
  have S2:=S1.trans s2
  refine⟨_,rfl,_,rfl,a,ns,2,rfl,S2.seq hS,by decide,λc2=>⟨_,rfl,_,l,c2,wd,rfl,hv,ok,w0,by omega,λp tr H3 s3 np hp hne tl tn T=>?_⟩⟩
  have h6:tr.length<=6:=by omega
  have hv3:=Da.same s3 hv
  have IM:=gx s3 hlt
  have KC:=s3.seq hll
  have Kz:=Das.same s3 hlq
  clear s2 s3 S2 S1 hv hlt hll hlq hv1 hS
  refine⟨_,rfl,al,_,_,_,rfl,rfl,IM,rfl,_,rfl,al,_,_,_,rfl,rfl,IM,rfl,bl,us,rfl,.inl KC,λq1 nq1=>⟨by show 2<=sizeLine;decide,λq2 nq2=>?_⟩⟩
  have u1:=fF (o:=.lst us) nq1
  have u2:=fF (o:=.tup [.int l.1,.ref q1]) nq2
  have S4:=u1.trans u2
  have hq2:Da K (upd (upd H3 q1 (.lst us)) q2 (.tup [.int l.1,.ref q1])) (dL l) (.ref q2):=pZ fE (iE.mpr ⟨q1,us,rfl,SqL.of (u2 _ _ fE),Das.same S4 Kz⟩)
  generalize upd (upd H3 q1 (.lst us)) q2 _=H4 at S4 hq2 ⊢
  clear u1 u2 IM KC Kz
  refine⟨_,rfl,p,_,rfl,.inl (SqL.of (S4 _ _ hp)),λq3 nq3=>⟨by show 2<=sizeLine;decide,λq4 nq4=>?_⟩⟩
  have u3:=fF (o:=.lst (tr.map V.int)) nq3
  have u4:=fF (o:=.tup [.ref q2,.ref q3]) nq4
  have S5:=S4.trans (u3.trans u4)
  have hv5:=Da.same S5 hv3
  have hp5:=S5 _ _ hp
  have hq5:=Da.same (u3.trans u4) hq2
  have ht5:Da K (upd (upd H4 q3 (.lst (tr.map V.int))) q4 (.tup [.ref q2,.ref q3])) (dI tr) (.ref q3):=jc (u4 _ _ fE)
  have hq4:=fE (H:=upd H4 q3 (.lst (tr.map V.int))) (a:=q4) (o:=.tup [.ref q2,.ref q3])
  generalize upd (upd H4 q3 (.lst (tr.map V.int))) q4 _=H5 at S5 hv5 hp5 hq5 ht5 hq4 u3 u4 ⊢
  clear u3 u4 S4 S5 hv3 hp hq2 nq1 nq2 nq3 nq4
  refine hR2 _ _ _ (nm2 λR3 hR3=>?_)
  refine⟨_,rfl,_,rfl,_,p,l,tr,rfl,hv5,hp5,ok,hne,h6,T,λi t po qr as ur H6 hi s6 ht hpo DO hqr DR=>?_⟩
  refine⟨t,_,rfl,SqT.of ht,rfl,_,_,rfl,_,_,rfl,rfl,?_⟩
  refine⟨by show 2<=sizeLine;decide,λwl nwl=>?_⟩
  have s7:=fF (o:=.lst [V.str "told",V.str "many"]) nwl
  have hwl:=fE (H:=H6) (a:=wl) (o:=.lst [V.str "told",V.str "many"])
  have S7:=s6.trans s7
  have Gx:=s7 _ _ hpo
  have IJ:=s7 _ _ hqr
  have DO7:=Das.same s7 DO
  have DR7:=Das.same s7 DR
  generalize upd H6 wl _=H7 at s7 hwl S7 Gx IJ DO7 DR7 ⊢
  have asl:(as.map V.ref).length=i:=by have:=Dgs.length DO;rw[this,aa,aa,hi]
  obtain⟨due,hat,KJ⟩:∃ due:Str,atI [V.str "told",V.str "many"] (if decide ((300:Int)<((as.map V.ref).length:Int))=true then 1 else 0)=some (.str due)/\((i<=300/\due = "told")\/(300<i/\due = "many")):=by
   rw[asl]
   by_cases c:300<i
   ·rw[bB (show(300:Int)<(i:Int) by omega),aQ rfl]
    exact⟨_,rfl,.inr ⟨c,rfl⟩⟩
   ·rw[aW (show ¬(300:Int)<(i:Int) by omega),aG aB]
    exact⟨_,rfl,.inl ⟨by omega,rfl⟩⟩
  refine⟨_,rfl,po,_,rfl,.inl (SqL.of Gx),_,_,rfl,rfl,.inr ⟨_,rfl,wl,_,_,_,rfl,rfl,SqL.of hwl,hat,?_⟩⟩
  refine hR3 _ _ _ (nm2 λR4 hR4=>?_)
  refine⟨_,rfl,_,rfl,_,rfl,_,rfl,_,_,po,qr,l,tr,i,as,ur,rfl,Da.same S7 hv5,jc (S7 _ _ hp5),ok,h24,hne,h6,T,hi,Gx,DO7,IJ,DR7,λH8 s8=>?_⟩
  refine⟨_,rfl,jO ?_⟩
  have S8:=S7.trans s8
  have hv8:=Da.same S8 hv5
  have hp8:=S8 _ _ hp5
  have hq8:=Da.same S8 hq5
  have ht8:=Da.same S8 ht5
  have hh8:=S8 _ _ hq4
  clear s6 s7 s8 S7 S8 ht hpo hqr DO DR Gx IJ DO7 DR7 hwl hat hv5 hp5 hq5 ht5 hq4
  have ask:∀ (gs:List Int) (way:Int) (G:Hp) (Q':VK),(way=0\/way=3\/gOk l tr gs)->(∀ G',fL G G'->Q' (.str due) G')->Ask l tr gs way G Q':=λgs way G Q' hw h=>by
   refine⟨λ_ ⟨j,hj,j3⟩ G' s=>?_,λ_ ⟨j,hj⟩ G' s=>?_,λz hg=>?_⟩
   ·rcases KJ with⟨_,e⟩|⟨c,_⟩
    ·rw[<-e];exact h G' s
    ·have:=Ds hj i;omega
   ·rcases KJ with⟨c,_⟩|⟨_,e⟩
    ·have:=Ds hi j;omega
    ·rw[<-e];exact h G' s
   ·rcases hw with e |e |e
    ·omega
    ·omega
    ·exact absurd e hg
  have bad:∀ (gs:List Int) (way:Int) (G:Hp) (Q':VK),(way=1\/way=2)->¬gOk l tr gs->(∀ G',fL G G'->Q' (.str "train") G')->Ask l tr gs way G Q':=λgs way G Q' hw hg h=>
   ⟨λz=>absurd (z.resolve_left (by omega)) (λz=>hg (z.resolve_left (by omega))),λz=>absurd (z.resolve_left (by omega)) (λz=>hg (z.resolve_left (by omega))),λ_ _=>h⟩
  have HI:gOk l tr tr:=⟨⟨hne,T⟩,rfl⟩
  refine⟨_,rfl,by decide,by decide,oE (λj σ G=>∃ x9:Option V,σ = [some (.ref a),some (.int n),some (.ref al),some (.int wd),some (.ref p),some (.ref q4),some (.ref po),some (.ref qr),some (.str due),x9,none]/\fL H8 G) ⟨none,rfl,fL.refl _⟩ ?_ ?_⟩
  ·rintro j σ G N R B' kN _ hj ⟨x9,rfl,S⟩
   have hj:j<4:=hj
   refine⟨_,rfl,_,rfl,q4,_,_,_,rfl,rfl,SqT.of (S _ _ hh8),rfl,_,rfl,q4,_,_,_,rfl,rfl,SqT.of (S _ _ hh8),rfl,_,rfl,p,_,rfl,.inl (SqL.of (S _ _ hp8)),λg ng=>?_⟩
   have u:=fF (o:=.lst (tr.map V.int)) ng
   have hg:=fE (H:=G) (a:=g) (o:=.lst (tr.map V.int))
   generalize upd G g _=G1 at u hg ⊢
   refine⟨_,_,_,_,l,tr,tr,rfl,by omega,Da.same (S.trans u) hq8,Da.same (S.trans u) ht8,jc hg,ok,hne,by omega,T,by omega,ask _ _ _ _ (.inr (.inr HI)) λG2 s2=>?_⟩
   refine⟨_,rfl,rfl,_,rfl,ip (λh=>absurd h (by simp)) (λ_=>kN _ _ ⟨_,rfl,S.trans (u.trans s2)⟩)⟩
  rintro σ G ⟨x9,rfl,S⟩
  refine hR4 _ _ _ (nm λR5 hR5=>?_)
  obtain⟨al2,bl2,eal,Pd,_⟩:=oF hv8
  cases eal
  obtain⟨x0,tr',etr⟩:∃ x0 tr',tr=x0::tr':=by cases tr with |nil=>exact absurd rfl hne |cons x r=>exact⟨x,r,rfl⟩
  have a0:atI (tr.map V.int) 0=some (V.int x0):=by rw[etr];unfold atI ixN;simp
  have tz:(tr.map V.int).length<=6:=by rw[aa];exact h6
  refine⟨_,rfl,_,rfl,p,_,_,_,rfl,rfl,SqL.of (S _ _ hp8),a0,by show 1<=sizeLine;decide,λb1 nb1=>?_⟩
  have u:=fF (o:=.lst [V.int x0]) nb1
  refine⟨p,b1,_,_,rfl,rfl,u _ _ (S _ _ hp8),fE,?_,λg1 ng1=>?_⟩
  ·refine bK (jC ?_);show(tr.map V.int).length+1<=_;omega
  have u1:=u.trans (fF (o:=.lst (tr.map V.int ++ [V.int x0])) ng1)
  have hg1:upd (upd G b1 (.lst [V.int x0])) g1 (.lst (tr.map V.int ++ [V.int x0])) g1=some (.lst ((tr ++ [x0]).map V.int)):=by rw[fE,av];rfl
  generalize upd (upd G b1 (.lst [V.int x0])) g1 _=G1 at u1 hg1 ⊢
  have S1:=S.trans u1
  clear u
  refine⟨_,rfl,_,rfl,_,rfl,p,_,rfl,SqL.of (S1 _ _ hp8),λb2 nb2=>?_⟩
  rw[vy]
  have v1:=fF (o:=.lst (tr.dropLast.map V.int)) nb2
  refine⟨_,rfl,al,_,_,_,rfl,rfl,gx (S1.trans v1) Pd,rfl,_,_,rfl,rfl,.inl ⟨by decide,by decide⟩,by show 1<=sizeLine;decide,λb3 nb3=>?_⟩
  have v2:=fF (o:=.lst [V.int (2*l.1)]) nb3
  refine⟨b2,b3,_,_,rfl,rfl,v2 _ _ fE,fE,?_,λg2 ng2=>?_⟩
  ·refine bK (jC ?_);show(tr.dropLast.map V.int).length+1<=_;rw[aa,bM];omega
  have u2:=v1.trans (v2.trans (fF (o:=.lst (tr.dropLast.map V.int ++ [V.int (2*l.1)])) ng2))
  have hg2:upd (upd (upd G1 b2 (.lst (tr.dropLast.map V.int))) b3 (.lst [V.int (2*l.1)])) g2 (.lst (tr.dropLast.map V.int ++ [V.int (2*l.1)])) g2=some (.lst ((tr.dropLast ++ [2*l.1]).map V.int)):=by rw[fE,av];rfl
  generalize upd (upd (upd G1 b2 (.lst (tr.dropLast.map V.int))) b3 (.lst [V.int (2*l.1)])) g2 _=G2 at u2 hg2 ⊢
  have S2:=S1.trans u2
  clear v1 v2
  refine⟨_,rfl,by show 1<=sizeLine;decide,λb4 nb4=>?_⟩
  have v1:=fF (o:=.lst [V.int (-1)]) nb4
  refine⟨_,rfl,p,_,rfl,.inl (SqL.of (v1 _ _ (S2 _ _ hp8))),b4,_,_,rfl,rfl,fE,by omega,by omega,?_,λg3 ng3=>?_⟩
  ·refine bK (jC ?_);show 1*((tr.map V.int).length:Int).toNat<=_;omega
  have u3:=v1.trans (fF (o:=.lst (List.replicate ((tr.map V.int).length:Int).toNat [V.int (-1)]).flatten) ng3)
  have hg3:upd (upd G2 b4 (.lst [V.int (-1)])) g3 (.lst (List.replicate ((tr.map V.int).length:Int).toNat [V.int (-1)]).flatten) g3=some (.lst ((List.replicate tr.length (-1:Int)).map V.int)):=by
   rw[fE,aa,dy,List.map_replicate]
   generalize tr.length=m
   congr 2
   induction m with
   |zero=>rfl
   |succ m ih=>rw[bP,dw,ih,bP];rfl
  generalize upd (upd G2 b4 (.lst [V.int (-1)])) g3 _=G3 at u3 hg3 ⊢
  have S3:=S2.trans u3
  refine⟨aI _,λg4 ng4=>?_⟩
  have u4:=fF (o:=.lst []) ng4
  have hg4:=fE (H:=G3) (a:=g4) (o:=.lst [])
  generalize upd G3 g4 _=G4 at u4 hg4 ⊢
  refine⟨by show 4<=sizeLine;decide,λgl ngl=>?_⟩
  have u5:=fF (o:=.lst [V.ref g1,V.ref g2,V.ref g3,V.ref g4]) ngl
  have hgl:=fE (H:=G4) (a:=gl) (o:=.lst [V.ref g1,V.ref g2,V.ref g3,V.ref g4])
  generalize upd G4 gl _=G5 at u5 hgl ⊢
  have S5:=S3.trans (u4.trans u5)
  have each:∀ (j:Nat) y,[V.ref g1,V.ref g2,V.ref g3,V.ref g4][j]? = some y->∃ (g:Addr) (gs:List Int),y = .ref g/\G5 g=some (.lst (gs.map V.int))/\gs.length<=900/\¬gOk l tr gs:=λj y hy=>by
   match j,hy with
   | 0,hy=>cases hy;exact⟨g1,_,rfl,(u2.trans (u3.trans (u4.trans u5))) _ _ hg1,by rw[ak];show tr.length+1<=900;omega,λz=>by have:=z.2;rw[ak]at this;exact absurd this (by show ¬tr.length+1=_;omega)⟩
   | 1,hy=>cases hy;exact⟨g2,_,rfl,(u3.trans (u4.trans u5)) _ _ hg2,by rw[ak,bM];show tr.length-1+1<=900;omega,λz=>by have:=z.1.2.ends (2*l.1) (by simp);omega⟩
   | 2,hy=>cases hy;exact⟨g3,_,rfl,(u4.trans u5) _ _ hg3,by rw[List.length_replicate];omega,λz=>by have:=z.1.2.ends (-1) (by rw[etr];simp);omega⟩
   | 3,hy=>cases hy;exact⟨g4,[],rfl,u5 _ _ hg4,by decide,λz=>z.1.1 rfl⟩
  clear hg1 hg2 hg3 hg4 u1 u2 u3 u4 u5 v1 S1 S2 S3 a0
  have hq9:=Da.same S5 hq8
  have ht9:=Da.same S5 ht8
  have hh9:=S5 _ _ hh8
  have hp9:=S5 _ _ hp8
  refine⟨gl,rfl,⟨_,SqL.of hgl⟩,iP (K:=K) (a:=gl) (xs:=[V.ref g1,V.ref g2,V.ref g3,V.ref g4]) (λj σ G=>∃ x9 x10:Option V,σ = [some (.ref a),some (.int n),some (.ref al),some (.int wd),some (.ref p),some (.ref q4),some (.ref po),some (.ref qr),some (.str due),x9,x10]/\fL G5 G) ⟨x9,none,rfl,fL.refl _⟩ (λ_ _ _ _ ⟨_,_,_,s⟩=>SqL.of (s _ _ hgl)) ?_ ?_⟩
  ·rintro j y σ G N R B' kN kR hj ⟨x9,x10,rfl,S⟩
   obtain⟨g,gs,rfl,hg,gl9,hng⟩:=each j y hj
   dsimp only[oN]
   refine⟨by show 2<=sizeLine;decide,λwl2 nw2=>?_⟩
   have u:=fF (o:=.lst [V.int 1,V.int 2]) nw2
   have hw2:=fE (H:=G) (a:=wl2) (o:=.lst [V.int 1,V.int 2])
   generalize upd G wl2 _=G6 at u hw2 ⊢
   have S6:=S.trans u
   refine⟨wl2,rfl,⟨_,SqL.of hw2⟩,iP (K:=K) (a:=wl2) (xs:=[V.int 1,V.int 2]) (λj σ G=>∃ x9:Option V,σ = [some (.ref a),some (.int n),some (.ref al),some (.int wd),some (.ref p),some (.ref q4),some (.ref po),some (.ref qr),some (.str due),x9,some (.ref g)]/\fL G6 G) ⟨x9,rfl,fL.refl _⟩ (λ_ _ _ _ ⟨_,_,s⟩=>SqL.of (s _ _ hw2)) ?_ ?_⟩
   ·rintro j y σ G N2 R2 B2 kN2 _ hj ⟨x9,rfl,S⟩
    obtain⟨way,rfl,O8⟩:∃ way:Int,y = .int way/\(way=1\/way=2):=by
     match j,hj with
     | 0,hj=>cases hj;exact⟨1,rfl,.inl rfl⟩
     | 1,hj=>cases hj;exact⟨2,rfl,.inr rfl⟩
    have S7:=S6.trans S
    refine⟨_,rfl,_,rfl,q4,_,_,_,rfl,rfl,SqT.of (S7 _ _ hh9),rfl,_,rfl,q4,_,_,_,rfl,rfl,SqT.of (S7 _ _ hh9),rfl,_,rfl,?_⟩
    refine⟨_,_,_,_,l,tr,gs,rfl,by omega,Da.same S7 hq9,Da.same S7 ht9,jc (S7 _ _ hg),ok,hne,by omega,T,gl9,bad _ _ _ _ O8 hng λG8 s8=>?_⟩
    exact⟨rfl,_,rfl,ip (λh=>absurd h (by simp)) (λ_=>kN2 _ _ ⟨_,rfl,S.trans s8⟩)⟩
   ·rintro σ G ⟨x9,rfl,S⟩
    exact kN _ _ ⟨_,_,rfl,S6.trans S⟩
  rintro σ G ⟨x9',x10,rfl,S⟩
  refine hR5 _ _ _ (nm λR6 hR6=>?_)
  have fin:∀ G,fL G5 G->R6 {nx:=λx H'=>Q V.non H',rt:=Q} [some (.ref a),some (.int n),some (.ref al),some (.int wd),some (.ref p),some (.ref q4),some (.ref po),some (.ref qr),some (.str due),x9',x10] G:=λG S=>by
   refine hR6 _ _ _ ?_
   refine⟨_,rfl,_,rfl,_,rfl,by show 2<=sizeLine;decide,λw nw=>?_⟩
   have u:=fF (o:=.tup [.ref al,.ref p]) nw
   refine⟨dH2 l tr,dH2 l tr,ie.mpr ⟨q4,_,rfl,SqT.of ((S.trans u) _ _ hh9),Dgs.two (Da.same (S.trans u) hq9) (Da.same (S.trans u) ht9)⟩,ie.mpr ⟨w,_,rfl,SqT.of fE,Dgs.two (Da.same (S5.trans (S.trans u)) hv8) (jc ((S.trans u) _ _ hp9))⟩,AD l tr,AD l tr,?_⟩
   rw[E8 (AD l tr)]
   exact k _
  refine⟨_,rfl,p,_,rfl,.inl (SqL.of (S _ _ hp9)),_,_,rfl,rfl,_,rfl,ip (λh=>?_) (λ_=>fin G S)⟩
  have h:(1:Int)<((tr.map V.int).length:Int):=by simpa using h
  rw[aa]at h
  refine⟨_,rfl,q4,_,_,_,rfl,rfl,SqT.of (S _ _ hh9),rfl,_,rfl,q4,_,_,_,rfl,rfl,SqT.of (S _ _ hh9),rfl,_,rfl,_,rfl,p,_,rfl,SqL.of (S _ _ hp9),λw nw=>?_⟩
  rw[rH]
  have u:=fF (o:=.lst ((tr.drop 1).map V.int)) nw
  refine⟨_,_,_,_,l,tr,tr.drop 1,rfl,by omega,Da.same (S.trans u) hq9,Da.same (S.trans u) ht9,jc fE,ok,hne,by omega,T,by rw[bA];omega,bad _ _ _ _ (.inl rfl) (λz=>by have:=z.2;rw[bA]at this;omega) λG8 s8=>?_⟩
  exact⟨rfl,_,rfl,ip (λh=>absurd h (by simp)) (λ_=>fin _ ((S.trans u).trans s8))⟩
end
structure En (K:PySem.W.Frag)(x:Str)(st:Stmt)(f:Addr)(oc:Value)(od:Option Addr)(osl:Array (Option Value))(kV doc pm:Value)(an:Option Addr)(cdv ct:Value):Prop where
 a:PySem.W.nsIn K mainGlobals x=some (some (.ref f))
 l:K.lookup f=some ⟨oc,od,.func (PySem.W.fnOf x x (nj st) (lA st) (fM st) .none kV doc pm an cdv ct),osl⟩
 c:PySem.W.codeIn K cdv x=true
 k:PySem.W.keepIn K (.ref f)=true
theorem g9 {h:Heap}{mg:Str->Option Value}{x:Str}{st:Stmt}{ps:List Str}{f:Addr}{oc:Value}{od an:Option Addr}{osl:Array (Option Value)}{kV doc pm cdv ct:Value}(X:K.In h)(G:h.Ns mainGlobals mg)(e:En K x st f oc od osl kV doc pm an cdv ct)
  (hb:∀ (kV doc pm:Value) (an:Option Addr) (cdv ct:Value) (us:List Value),us.length=ps.length->bindArgs (PySem.W.fnOf x x (nj st) (lA st) (fM st) .none kV doc pm an cdv ct) ⟨us,[]⟩=pure (ps.zip us)):
  Fn K mg x st ps f (PySem.W.fnOf x x (nj st) (lA st) (fM st) .none kV doc pm an cdv ct):=⟨E5 (st:=st) e.l e.c e.k,PySem.W.mg_of X G e.a,(E5 (st:=st) e.l e.c e.k).binds (ps:=ps) hb⟩
variable {F:FuncData}
theorem bn1 {p:List Str}(k:∀ a0,bindArgs F ⟨[a0],[]⟩=pure (p.zip [a0]))(us:List Value)(h:us.length=1):bindArgs F ⟨us,[]⟩=pure (p.zip us):=match us,h with |[a0],_=>k a0
theorem bn2 {p:List Str}(k:∀ a0 a1,bindArgs F ⟨[a0,a1],[]⟩=pure (p.zip [a0,a1]))(us:List Value)(h:us.length=2):bindArgs F ⟨us,[]⟩=pure (p.zip us):=match us,h with |[a0,a1],_=>k a0 a1
theorem bn3 {p:List Str}(k:∀ a0 a1 a2,bindArgs F ⟨[a0,a1,a2],[]⟩=pure (p.zip [a0,a1,a2]))(us:List Value)(h:us.length=3):bindArgs F ⟨us,[]⟩=pure (p.zip us):=match us,h with |[a0,a1,a2],_=>k a0 a1 a2
theorem bn4 {p:List Str}(k:∀ a0 a1 a2 a3,bindArgs F ⟨[a0,a1,a2,a3],[]⟩=pure (p.zip [a0,a1,a2,a3]))(us:List Value)(h:us.length=4):bindArgs F ⟨us,[]⟩=pure (p.zip us):=match us,h with |[a0,a1,a2,a3],_=>k a0 a1 a2 a3
theorem all_mk {l:PySem.W.OpenLaw}{w:World}{h:Heap}{mg:Str->Option Value}{fa f6 f7 f8 f9 f10 f11 f12 f13 f14 f15 f16 f17 f18 f19 f20 f21 f22 f23 f24 f25 f26 f27 f28 f29 f30 f31 f32 f33 f34 f35 f36 f37 f38 f39 f40 f41 f42 f43:Addr}(X:K.In h)(G:h.Ns mainGlobals mg)(hfa:mg "law" = some (.ref fa))
  {od1 an1 od2 an2 od3 an3 od4 an4 od5 an5 od6 an6 od7 an7 od8 an8 od9 an9 Nu Se Nt Sd Nr Sb Nq Sa Np R9 Nn R7 Nm R0 Nl RZ Nk RY Nj RX Ni RW Nh RV Ng RU Nf RT Nd RS Nc RQ Nb RP Na RM M9 RL M8 RK M7 RJ M6 RI M5 RH M4 RF M3 RE M0 RD MZ RB MY RA MX Rz MW Ry MV Rx MU Rw MT Rv MS K5:Option Addr}{sl1 sl2 sl3 sl4 sl5 sl6 sl7 sl8 sl9 Mb L9 L8 L6 LZ LY LX LW LV LU LS LR LQ LP LO LN LM LL LK LJ LI LH LF LD LC LB LA Lz Ly Lx Lw Lv Lu Ls:Array (Option Value)}{oc1 kV1 dc1 pm1 cd1 ct1 oc2 kV2 dc2 pm2 cd2 ct2 oc3 kV3 dc3 pm3 cd3 ct3 oc4 kV4 dc4 pm4 cd4 ct4 oc5 kV5 dc5 pm5 cd5 ct5 oc6 kV6 dc6 pm6 cd6 ct6 oc7 kV7 dc7 pm7 cd7 ct7 oc8 kV8 dc8 pm8 cd8 ct8 oc9 kV9 dc9 pm9 cd9 ct9 Oe O4 Qg MQ Rr QN Od O3 Qf MP Rq QM Oc O2 Qe MO Rp QL Ob O1 Qd MN Ro QK Oa O0 Qc MM Rm QJ N9 OZ Qb ML Rk QI N8 OY Qa MK Rj QH N0 OX PZ MJ Ri QG NZ OW PY MI Rh QF NY OV PX MH Rg QE NW OU PV MG Rf QD NV OT PU MF Rc QC NU OS PR ME Rb QB NT OR PQ MD Ra QA NS OQ PM MC Q9 Qz NR OP PL MB Q8 Qy NQ OO PK MA Q7 Qx NP ON PJ Mz Q6 Qw NO OM PH My Q5 Qv NM OL PF Mx Q4 Qu NL OK PD Mw Q3 Qt NK OJ PB Mu Q2 Qs NJ OI Pz Mt QZ Qr NI OH Py Ms QY Qq NH OG Px Mr QX Qp NF OF Pu Mq QW Qo ND OE Pt Mp QV Qn NB OD Pr Mo QU Qm NA OC Pq Mn QT Ql Nz OB Pp Mm QS Qk Ny OA Po Ml QR Qj Nx Oz Pn Mk QQ Qi Nw Oy Pm Mj QP Qh Nv Kg K1 JV K4 K3:Value}
  (e1:En K "other_end" jI f1 oc1 od1 sl1 kV1 dc1 pm1 an1 cd1 ct1)
  (e2:En K "piece_of" mH f2 oc2 od2 sl2 kV2 dc2 pm2 an2 cd2 ct2)
  (e3:En K "is_end" qV f3 oc3 od3 sl3 kV3 dc3 pm3 an3 cd3 ct3)
  (e4:En K "joined" mI f4 oc4 od4 sl4 kV4 dc4 pm4 an4 cd4 ct4)
  (e5:En K "check_train" jv f5 oc5 od5 sl5 kV5 dc5 pm5 an5 cd5 ct5)
  (e6:En K "turned" oW f6 oc6 od6 sl6 kV6 dc6 pm6 an6 cd6 ct6)
  (e7:En K "free_ends" kd f7 oc7 od7 sl7 kV7 dc7 pm7 an7 cd7 ct7)
  (e8:En K "moves_of" j9 f8 oc8 od8 sl8 kV8 dc8 pm8 an8 cd8 ct8)
  (e9:En K "check_goal" kz f9 oc9 od9 sl9 kV9 dc9 pm9 an9 cd9 ct9)
  (e10:En K "first_steps" ju f10 Oe Nu Mb O4 Qg MQ Se Rr QN)
  (e11:En K "lists_of" jJ f11 Od Nt L9 O3 Qf MP Sd Rq QM)
  (e12:En K "come_to" pT f12 Oc Nr L8 O2 Qe MO Sb Rp QL)
  (e13:En K "run_back_from" iT f13 Ob Nq L6 O1 Qd MN Sa Ro QK)
  (e14:En K "numbers_of" ku f14 Oa Np LZ O0 Qc MM R9 Rm QJ)
  (e15:En K "least" qU f15 N9 Nn LY OZ Qb ML R7 Rk QI)
  (e16:En K "is_standing" lq f16 N8 Nm LX OY Qa MK R0 Rj QH)
  (e17:En K "are_standings" iH f17 N0 Nl LW OX PZ MJ RZ Ri QG)
  (e18:En K "allow_moves" lr f18 NZ Nk LV OW PY MI RY Rh QF)
  (e19:En K "are_numbers" iN f19 NY Nj LU OV PX MH RX Rg QE)
  (e20:En K "is_shut" nO f20 NW Ni LS OU PV MG RW Rf QD)
  (e21:En K "gone_on" pS f21 NV Nh LR OT PU MF RV Rc QC)
  (e22:En K "changed_over" kA f22 NU Ng LQ OS PR ME RU Rb QB)
  (e23:En K "counted" nP f23 NT Nf LP OR PQ MD RT Ra QA)
  (e24:En K "fewest" oX f24 NS Nd LO OQ PM MC RS Q9 Qz)
  (e25:En K "allow_ways" lZ f25 NR Nc LN OP PL MB RQ Q8 Qy)
  (e26:En K "are_ways" ka f26 NQ Nb LM OO PK MA RP Q7 Qx)
  (e27:En K "turn" xH f27 NP Na LL ON PJ Mz RM Q6 Qw)
  (e28:En K "_law_cell_at" lp f28 NO M9 LK OM PH My RL Q5 Qv)
  (e29:En K "_law_mix" kO f29 NM M8 LJ OL PF Mx RK Q4 Qu)
  (e30:En K "_law_turned_row" jN f30 NL M7 LI OK PD Mw RJ Q3 Qt)
  (e31:En K "_law_other" lG f31 NK M6 LH OJ PB Mu RI Q2 Qs)
  (e32:En K "_law_joined" ji f32 NJ M5 LF OI Pz Mt RH QZ Qr)
  (e33:En K "_law_renamed" ll f33 NI M4 LD OH Py Ms RF QY Qq)
  (e34:En K "_law_train" kc f34 NH M3 LC OG Px Mr RE QX Qp)
  (e35:En K "_law_moves" lH f35 NF M0 LB OF Pu Mq RD QW Qo)
  (e36:En K "_law_kept" ot f36 ND MZ LA OE Pt Mp RB QV Qn)
  (e37:En K "_law_rungs" m8 f37 NB MY Lz OD Pr Mo RA QU Qm)
  (e38:En K "_law_rounds" ky f38 NA MX Ly OC Pq Mn Rz QT Ql)
  (e39:En K "_law_dense" m9 f39 Nz MW Lx OB Pp Mm Ry QS Qk)
  (e40:En K "_law_web" nN f40 Ny MV Lw OA Po Ml Rx QR Qj)
  (e41:En K "_law_papers_hold" iV f41 Nx MU Lv Oz Pn Mk Rw QQ Qi)
  (e42:En K "_law_asked" nh f42 Nw MT Lu Oy Pm Mj Rv QP Qh)
  (e43:En K "law" wA f43 Nv MS Ls Kg K1 JV K5 K4 K3)
  (z1:PySem.W.nsIn K mainGlobals "len" = some none) (z2:PySem.W.nsIn K mainGlobals "range" = some none) (z3:PySem.W.nsIn K mainGlobals "sorted" = some none) (z4:PySem.W.nsIn K mainGlobals "enumerate" = some none) (z5:PySem.W.nsIn K mainGlobals "reversed" = some none) (z6:PySem.W.nsIn K mainGlobals "min" = some none) (z7:PySem.W.nsIn K mainGlobals "max" = some none) (z8:PySem.W.nsIn K mainGlobals "list" = some none) (z9:PySem.W.nsIn K mainGlobals "int" = some none) (z10:PySem.W.nsIn K mainGlobals "isinstance" = some none) (z11:PySem.W.nsIn K mainGlobals "zip" = some none) (z12:PySem.W.nsIn K mainGlobals "sum" = some none) (z13:PySem.W.nsIn K mainGlobals "all" = some none) (z14:PySem.W.nsIn K mainGlobals "set" = some none) (z15:PySem.W.nsIn K mainGlobals "tuple" = some none) (z16:PySem.W.nsIn K mainGlobals "abs" = some none) (z17:PySem.W.nsIn K mainGlobals "bool" = some none) (z18:PySem.W.nsIn K mainGlobals "dict" = some none) (z19:PySem.W.nsIn K mainGlobals "str" = some none)
  {C0 C1 C2 C3 C4 C5 C6 C7:Addr} (ve:PySem.W.nsIn K mainGlobals "ValueError" = some none) (xb0:mS K "TurnError" C0) (xb1:mS K "NoLine" C1) (xb2:mS K "NoTrain" C2) (xb3:mS K "NoMove" C3) (xb4:mS K "NoPiece" C4) (xb5:mS K "TooMany" C5) (xb6:mS K "NoText" C6) (xb7:mS K "NoRow" C7) (xd1:qB K C0 C1) (xd2:qB K C0 C2) (xd3:qB K C0 C3) (xd4:qB K C0 C4) (xd5:qB K C0 C5) (xd6:qB K C0 C6) (xd7:qB K C0 C7) (xe1:rR K C1 C2 C3 C4 C5 C6 C7) (xe2:rR K C2 C1 C3 C4 C5 C6 C7) (xe3:rR K C3 C1 C2 C4 C5 C6 C7) (xe4:rR K C4 C1 C2 C3 C5 C6 C7) (xe5:rR K C5 C1 C2 C3 C4 C6 C7) (xe6:rR K C6 C1 C2 C3 C4 C5 C7) (xe7:rR K C7 C1 C2 C3 C4 C5 C6) (nd:[C1,C2,C3,C4,C5,C6,C7].Nodup)
  (xm2:PySem.W.mroIn K C2 (.ref C2)=some true)
  {tk0:Tok} (ck0:PySem.W.nsIn K mainGlobals "MOST_STANDINGS" = some (some (.int 300 tk0)))
  {od:Addr}{ot1 ot2 ot3 ot4:Tok}{oep:Nat} (wa:PySem.W.nsIn K mainGlobals "OTHER_WORD" = some (some (.ref od))) (wk:K.lookup od=some {cls:=.type "dict",data:=.dict #[⟨PyData.keyHash w.params (Str.ofString "on"),.str (Str.ofString "on") ot1,.str (Str.ofString "back") ot2⟩,⟨PyData.keyHash w.params (Str.ofString "back"),.str (Str.ofString "back") ot3,.str (Str.ofString "on") ot4⟩] oep}):
  ∃ fd:FuncData,(∀ (s:Shared) (v:Value),BindsTo s fd ⟨[v],[]⟩ [("_law_script",v)])/\∀ base:Heap,K.In base->base.Ns mainGlobals mg->fV l.prog w K mg base CX0 8 fa fd ["_law_script"] (xy K):=by
 have e:=hfa.symm.trans (PySem.W.mg_of X G e43.a)
 cases e
 have B:Bm mg:=⟨⟨aY X G z1,aY X G z2,aY X G z3,aY X G z4,aY X G z5,aY X G z6,aY X G z7,aY X G z8,aY X G z9,aY X G z10⟩,aY X G z11,aY X G z12,aY X G z13,aY X G z14,aY X G z15,aY X G z16,aY X G z17,aY X G z18,aY X G z19⟩
 have XS:=Jn X G ve xb0 xb1 xb2 xb3 xb4 xb5 xb6 xb7 xd1 xd2 xd3 xd4 xd5 xd6 xd7 xe1 xe2 xe3 xe4 xe5 xe6 xe7 nd
 have C:Cm mg tk0:=⟨PySem.W.mg_of X G ck0⟩
 have O:GR l.prog w K mg od:=JZ (PySem.W.mg_of X G wa) wk
 have gi:=g9 (ps:=["end"]) X G e1 λ_ _ _ _ _ _=>bn1 (λ_=>rfl)
 have hZ:=g9 (ps:=["end"]) X G e2 λ_ _ _ _ _ _=>bn1 (λ_=>rfl)
 have oh:=g9 (ps:=["line","end"]) X G e3 λ_ _ _ _ _ _=>bn2 (λ_ _=>rfl)
 have jr:=g9 (ps:=["line","end"]) X G e4 λ_ _ _ _ _ _=>bn2 (λ_ _=>rfl)
 have hV:=g9 (ps:=["line","train"]) X G e5 λ_ _ _ _ _ _=>bn2 (λ_ _=>rfl)
 have mZ:=g9 (ps:=["train"]) X G e6 λ_ _ _ _ _ _=>bn1 (λ_=>rfl)
 have i4:=g9 (ps:=["line","train","end"]) X G e7 λ_ _ _ _ _ _=>bn3 (λ_ _ _=>rfl)
 have gE:=g9 (ps:=["line","train"]) X G e8 λ_ _ _ _ _ _=>bn2 (λ_ _=>rfl)
 have ik:=g9 (ps:=["line","train","goal"]) X G e9 λ_ _ _ _ _ _=>bn3 (λ_ _ _=>rfl)
 have gz:=g9 (ps:=["line","train"]) X G e10 λ_ _ _ _ _ _=>bn2 (λ_ _=>rfl)
 have gP:=g9 (ps:=["standings"]) X G e11 λ_ _ _ _ _ _=>bn1 (λ_=>rfl)
 have mD:=g9 (ps:=["line","train"]) X G e12 λ_ _ _ _ _ _=>bn2 (λ_ _=>rfl)
 have gG:=g9 (ps:=["steps","goal"]) X G e13 λ_ _ _ _ _ _=>bn2 (λ_ _=>rfl)
 have jR:=g9 (ps:=["steps"]) X G e14 λ_ _ _ _ _ _=>bn1 (λ_=>rfl)
 have kF:=g9 (ps:=["line","train","goal"]) X G e15 λ_ _ _ _ _ _=>bn3 (λ_ _ _=>rfl)
 have jA:=g9 (ps:=["line","train","listed"]) X G e16 λ_ _ _ _ _ _=>bn3 (λ_ _ _=>rfl)
 have gM:=g9 (ps:=["line","train","standings"]) X G e17 λ_ _ _ _ _ _=>bn3 (λ_ _ _=>rfl)
 have jB:=g9 (ps:=["line","numbers","standing"]) X G e18 λ_ _ _ _ _ _=>bn3 (λ_ _ _=>rfl)
 have gI:=g9 (ps:=["line","train","rows"]) X G e19 λ_ _ _ _ _ _=>bn3 (λ_ _ _=>rfl)
 have jT:=g9 (ps:=["line","train","standings"]) X G e20 λ_ _ _ _ _ _=>bn3 (λ_ _ _=>rfl)
 have mB:=g9 (ps:=["line","states","steps"]) X G e21 λ_ _ _ _ _ _=>bn3 (λ_ _ _=>rfl)
 have je:=g9 (ps:=["states","steps"]) X G e22 λ_ _ _ _ _ _=>bn2 (λ_ _=>rfl)
 have mC:=g9 (ps:=["line","train"]) X G e23 λ_ _ _ _ _ _=>bn2 (λ_ _=>rfl)
 have oj:=g9 (ps:=["line","train","goal"]) X G e24 λ_ _ _ _ _ _=>bn3 (λ_ _ _=>rfl)
 have jU:=g9 (ps:=["line","ways","standing"]) X G e25 λ_ _ _ _ _ _=>bn3 (λ_ _ _=>rfl)
 have lg:=g9 (ps:=["line","train","rows"]) X G e26 λ_ _ _ _ _ _=>bn3 (λ_ _ _=>rfl)
 have sM:=g9 (ps:=["line","train"]) X G e27 λ_ _ _ _ _ _=>bn2 (λ_ _=>rfl)
 have gU:=g9 (ps:=["_law_script","_law_k"]) X G e28 λ_ _ _ _ _ _=>bn2 (λ_ _=>rfl)
 have gh:=g9 (ps:=["_law_cell","_law_k"]) X G e29 λ_ _ _ _ _ _=>bn2 (λ_ _=>rfl)
 have iQ:=g9 (ps:=["_law_number","_law_many"]) X G e30 λ_ _ _ _ _ _=>bn2 (λ_ _=>rfl)
 have gT:=g9 (ps:=["_law_end"]) X G e31 λ_ _ _ _ _ _=>bn1 (λ_=>rfl)
 have gL:=g9 (ps:=["_law_line","_law_end"]) X G e32 λ_ _ _ _ _ _=>bn2 (λ_ _=>rfl)
 have jz:=g9 (ps:=["_law_line","_law_cell"]) X G e33 λ_ _ _ _ _ _=>bn2 (λ_ _=>rfl)
 have kg:=g9 (ps:=["_law_line","_law_cell","_law_length"]) X G e34 λ_ _ _ _ _ _=>bn3 (λ_ _ _=>rfl)
 have ki:=g9 (ps:=["_law_line","_law_train_here"]) X G e35 λ_ _ _ _ _ _=>bn2 (λ_ _=>rfl)
 have kZ:=g9 (ps:=["_law_kept_here"]) X G e36 λ_ _ _ _ _ _=>bn1 (λ_=>rfl)
 have kh:=g9 (ps:=["_law_rungs_here"]) X G e37 λ_ _ _ _ _ _=>bn1 (λ_=>rfl)
 have jS:=g9 (ps:=["_law_number"]) X G e38 λ_ _ _ _ _ _=>bn1 (λ_=>rfl)
 have kj:=g9 (ps:=["_law_number"]) X G e39 λ_ _ _ _ _ _=>bn1 (λ_=>rfl)
 have mz:=g9 (ps:=["_law_line","_law_train_here"]) X G e40 λ_ _ _ _ _ _=>bn2 (λ_ _=>rfl)
 have iG:=g9 (ps:=["_law_line","_law_train_here","_law_order","_law_rows"]) X G e41 λ_ _ _ _ _ _=>bn4 (λ_ _ _ _=>rfl)
 have iq:=g9 (ps:=["_law_way","_law_line","_law_train_here","_law_goal"]) X G e42 λ_ _ _ _ _ _=>bn4 (λ_ _ _ _=>rfl)
 have K9:=g9 (ps:=["_law_script"]) X G e43 λ_ _ _ _ _ _=>bn1 (λ_=>rfl)
 refine⟨PySem.W.fnOf "law" "law" (nj wA) (lA wA) (fM wA) .none Kg K1 JV K5 K4 K3,λs v=>.of_eq rfl,λbase _ _=>?_⟩
 have XR:Xr K mg _:=⟨XS.jm,⟨xb2.t,xb2.isc,xb2.p,xm2⟩⟩
 have XT:Xt K mg _:=⟨XS.p8⟩
 have nG:fV l.prog w K mg base CX0 2 _ _ _ _:=uK jz gh iQ B.toBl
 have nu:fV l.prog w K mg base CX0 2 _ _ _ _:=xY i4 B.toBl hZ jr
 have iK:fV l.prog w K mg base CX0 3 _ _ _ _:=ze gE gi i4 nu
 have pJ:fV l.prog w K mg base CX0 2 _ _ _ _:=xV ki gT gL B.toBl
 have pI:fV l.prog w K mg base CX0 2 _ _ _ _:=xT kg gh gT gL B.toBl
 have Aa:fV l.prog w K mg base CX0 2 _ _ _ _:=wU mZ B.toBl gi
 have jy:fV l.prog w K mg base (CXr l.prog w base) 2 _ _ _ _:=uO hV XR B oh hZ jr gi
 have jQ:fV l.prog w K mg base (CXr l.prog w base) 3 _ _ _ _:=vT ik XR B hV jy
 have iA:fV l.prog w K mg base (CXr l.prog w base) 4 _ _ _ _:=uN gz B C XT gE iK
 have qc:fV l.prog w K mg base (CXr l.prog w base) 5 _ _ _ _:=Ei kF B ik jQ gz iA gP gG jR
 have sI:fV l.prog w K mg base CX0 4 _ _ _ _:=Az mB B gE iK
 have mY:fV l.prog w K mg base CX0 1 _ _ _ _:=tD je O
 have sJ:fV l.prog w K mg base CX0 5 _ _ _ _:=AA mC B mB sI je mY
 have vK:fV l.prog w K mg base (CXr l.prog w base) 6 _ _ _ _:=CA oj B ik jQ gz iA gP gG mC sJ
 have A6:fV l.prog w K mg base (CXr l.prog w base) 6 _ _ _ _:=Eh sM B kF qc mZ gi
 have sL:fV l.prog w K mg base (CXr l.prog w base) 5 _ _ _ _:=AB mD B gz iA gP
 have nI:fV l.prog w K mg base CX0 3 _ _ _ _:=uM jA XR B hV jy
 have iU:fV l.prog w K mg base CX0 4 _ _ _ _:=sj gM B jA nI
 have oJ:fV l.prog w K mg base CX0 4 _ _ _ _:=vU jU B gE iK
 have qD:fV l.prog w K mg base CX0 5 _ _ _ _:=zg lg B gM iU jU oJ
 have nJ:fV l.prog w K mg base CX0 4 _ _ _ _:=uQ jB B gE iK
 have i8:fV l.prog w K mg base CX0 5 _ _ _ _:=uP gI B gM iU jB nJ
 have qe:fV l.prog w K mg base CX0 6 _ _ _ _:=Ay jT gI i8
 have sF:fV l.prog w K mg base CX0 3 _ _ _ _:=Ax mz B ki pJ
 have oI:fV l.prog w K mg base CX0 2 _ _ _ _:=vS jS kh B
 have pK:fV l.prog w K mg base CX0 2 _ _ _ _:=xW kj gh B
 have kE:fV l.prog w K mg base CX0 7 _ _ _ _:=qy iG B jT qe gI i8 lg qD
 have lL:fV l.prog w K mg base CX0 7 _ _ _ _:=xX iq XS B mD sL kF qc oj vK sM A6 kZ
 exact Ig K9 B gU gh jS oI kj pK jz nG kg pI mz sF iG kE iq lL
theorem walk {l:PySem.W.OpenLaw}{q:Program}{loose:List Str}{XP:(Str->Option Value)->Heap->Prop}{YP:World->Heap->Prop}{d:DefRec}{K:Params->PySem.W.Frag}(hn:l.most=some 63)(hdf:d.params.defaults = [])
  (hY:∀ (w:World) (h:Heap),YP w h->(K w.params).In h)
  (F:∀ (w:World) (mg:Str->Option Value) (fa:Addr) (h:Heap),(K w.params).In h->h.Ns mainGlobals mg->mg d.name=some (.ref fa)->
   ∃ fd:FuncData,(∀ (s:Shared) (u:Value),BindsTo s fd ⟨[u],[]⟩ [("_law_script",u)])/\∀ base:Heap,(K w.params).In base->base.Ns mainGlobals mg->fV l.prog w (K w.params) mg base CX0 8 fa fd ["_law_script"] (xy (K w.params))):
  PySem.W.WalkO q loose XP YP l.row.toRowW d [] (λf vs=>PySem.call f vs):=
 L2.FL (n:=63) (k:=8) (x:= "_law_script") (CX:=λ_=>CX0) (sp:=λw=>xy (K w.params)) hn (by decide) hdf ⟨rfl,by decide,by decide⟩ hY F (λ_ _ a ns hl _ hS=>⟨a,ns,rfl,hS,λ_=>rfl⟩) λ_ _ _ _ _ z=>z
end K14
namespace PySem.W.Fast
noncomputable def tw100341053591727194:=0
noncomputable def tw10074086647438227413:=0
noncomputable def tw10086785376135489808:=0
noncomputable def tw10090541716744496871:=0
noncomputable def tw10196925400393663686:=0
noncomputable def tw10209444329756959658:=0
noncomputable def tw10218129604241649975:=0
noncomputable def tw10262713232576973073:=0
noncomputable def tw10311446407004855475:=0
noncomputable def tw10313256820367775367:=0
noncomputable def tw10344187581224540263:=0
noncomputable def tw10474427823943323992:=0
noncomputable def tw10507606089431217006:=0
noncomputable def tw10525459257036953453:=0
noncomputable def tw10570280935397277290:=0
noncomputable def tw10642863507184237910:=0
noncomputable def tw10654531889540522403:=0
noncomputable def tw10663869968519403734:=0
noncomputable def tw10700208744732856851:=0
noncomputable def tw10780790550524483272:=0
noncomputable def tw10877057441752148076:=0
noncomputable def tw10962727637821597390:=0
noncomputable def tw10976976662966545497:=0
noncomputable def tw11000187964328555065:=0
noncomputable def tw11038295817411135166:=0
noncomputable def tw11068513302988770271:=0
noncomputable def tw11084491842130643470:=0
noncomputable def tw11114952133744259565:=0
noncomputable def tw11121743262714070345:=0
noncomputable def tw1144344632678486050:=0
noncomputable def tw11502557607334571889:=0
noncomputable def tw11508287585480772966:=0
noncomputable def tw11547228758358556062:=0
noncomputable def tw11597270229950950305:=0
noncomputable def tw11623828903706571002:=0
noncomputable def tw11706021322813815442:=0
noncomputable def tw11744779762013380519:=0
noncomputable def tw11842671472207281966:=0
noncomputable def tw11928685017154844875:=0
noncomputable def tw11962313607365656220:=0
noncomputable def tw12080586579262099461:=0
noncomputable def tw12104219179305935514:=0
noncomputable def tw12122397821281245357:=0
noncomputable def tw12252060181701461839:=0
noncomputable def tw12294609478204017988:=0
noncomputable def tw12411168622135496676:=0
noncomputable def tw12453208584624160883:=0
noncomputable def tw12515229058155978146:=0
noncomputable def tw12527902385466690361:=0
noncomputable def tw12550448475401092648:=0
noncomputable def tw12554472571567983220:=0
noncomputable def tw12594666183816886675:=0
noncomputable def tw12612063796380607680:=0
noncomputable def tw1266305246357583304:=0
noncomputable def tw12663066118463132560:=0
noncomputable def tw12674860660537495510:=0
noncomputable def tw12746930565030642075:=0
noncomputable def tw12875255304552313044:=0
noncomputable def tw12920162811105515909:=0
noncomputable def tw13068540740336647315:=0
noncomputable def tw13071728832657671039:=0
noncomputable def tw13116521536914978142:=0
noncomputable def tw13151849505238791510:=0
noncomputable def tw13169339330506346996:=0
noncomputable def tw13204718938909916980:=0
noncomputable def tw13214500291524336398:=0
noncomputable def tw13222685606495153529:=0
noncomputable def tw13251166323011069897:=0
noncomputable def tw13344632531631373706:=0
noncomputable def tw13374771944708792649:=0
noncomputable def tw13388521231836824692:=0
noncomputable def tw13408125261277495641:=0
noncomputable def tw13417751773072532363:=0
noncomputable def tw1345073689255831536:=0
noncomputable def tw13454568277476228787:=0
noncomputable def tw13468214931488239458:=0
noncomputable def tw13676422990109860415:=0
noncomputable def tw13695592622045747241:=0
noncomputable def tw13714839139226276729:=0
noncomputable def tw13719759253057750625:=0
noncomputable def tw13770698460790657273:=0
noncomputable def tw13970712810475695438:=0
noncomputable def tw14048412716758980493:=0
noncomputable def tw14161772340452886198:=0
noncomputable def tw14203051928243065113:=0
noncomputable def tw14236847782581531776:=0
noncomputable def tw14242836551827038378:=0
noncomputable def tw14327576970050226574:=0
noncomputable def tw14366736398197822457:=0
noncomputable def tw14368275035744101673:=0
noncomputable def tw14434101723930658910:=0
noncomputable def tw14466236175689069423:=0
noncomputable def tw14605136322134261465:=0
noncomputable def tw14719106207477355373:=0
noncomputable def tw1475536484867679253:=0
noncomputable def tw14776747173502229090:=0
noncomputable def tw14806894599115556837:=0
noncomputable def tw14867884847884101066:=0
noncomputable def tw14889055653210761815:=0
noncomputable def tw14915128188375684950:=0
noncomputable def tw1492325835652264998:=0
noncomputable def tw14944060542005371371:=0
noncomputable def tw14957130796833812704:=0
noncomputable def tw15010239407957867572:=0
noncomputable def tw1505994931766214640:=0
noncomputable def tw15082270873604314079:=0
noncomputable def tw15163812406904002775:=0
noncomputable def tw15195948042149444842:=0
noncomputable def tw15257158165278689217:=0
noncomputable def tw15281578494652175765:=0
noncomputable def tw15306847188974785476:=0
noncomputable def tw1535317581714304009:=0
noncomputable def tw15425813044132770110:=0
noncomputable def tw15438804581659170079:=0
noncomputable def tw15449667962183388986:=0
noncomputable def tw15452116482470050239:=0
noncomputable def tw15905259366207341327:=0
noncomputable def tw15909228537624918749:=0
noncomputable def tw15937411850719731134:=0
noncomputable def tw15998791374075541564:=0
noncomputable def tw16018942238318227831:=0
noncomputable def tw16082033883448193529:=0
noncomputable def tw16088528453836513112:=0
noncomputable def tw16115372766633978455:=0
noncomputable def tw16177377325544392907:=0
noncomputable def tw16209673170971150929:=0
noncomputable def tw16270785691286581103:=0
noncomputable def tw16272658802555479462:=0
noncomputable def tw16300514614992227896:=0
noncomputable def tw16315990271417279937:=0
noncomputable def tw16330410514652711815:=0
noncomputable def tw16338874743915327277:=0
noncomputable def tw16370507184646972754:=0
noncomputable def tw16379590874806626989:=0
noncomputable def tw16496170074242165025:=0
noncomputable def tw16515735928457029025:=0
noncomputable def tw16528458032799641108:=0
noncomputable def tw16584333415831305473:=0
noncomputable def tw16607626669114436818:=0
noncomputable def tw16694584682104471391:=0
noncomputable def tw16708440726349951911:=0
noncomputable def tw16757663864627726261:=0
noncomputable def tw16778696510196761190:=0
noncomputable def tw16779877757575852642:=0
noncomputable def tw16794998667283330819:=0
noncomputable def tw16838628200001615135:=0
noncomputable def tw16910736344219362582:=0
noncomputable def tw16922607124990517711:=0
noncomputable def tw16961238385111551589:=0
noncomputable def tw16976187104420853462:=0
noncomputable def tw16977904613542495779:=0
noncomputable def tw17016103564766305295:=0
noncomputable def tw17081669760319671592:=0
noncomputable def tw17082588740219758212:=0
noncomputable def tw17082766697836234720:=0
noncomputable def tw17118963711502272178:=0
noncomputable def tw17127131120799206552:=0
noncomputable def tw17265697827003889555:=0
noncomputable def tw17279813774223419623:=0
noncomputable def tw17297236282748830526:=0
noncomputable def tw17303329166125475254:=0
noncomputable def tw17320831965639961350:=0
noncomputable def tw17339769135463078804:=0
noncomputable def tw17345462693923554228:=0
noncomputable def tw17345826563307410464:=0
noncomputable def tw17391619629650729155:=0
noncomputable def tw17425722649889851443:=0
noncomputable def tw17436748476116275399:=0
noncomputable def tw174678694816485005:=0
noncomputable def tw17510889814788665070:=0
noncomputable def tw17568342219856477689:=0
noncomputable def tw176293656082712745:=0
noncomputable def tw17662362902099260024:=0
noncomputable def tw17693932760468625920:=0
noncomputable def tw17729462248947382647:=0
noncomputable def tw17769414178248265235:=0
noncomputable def tw17772657608907560281:=0
noncomputable def tw17787123738243554550:=0
noncomputable def tw17817616299618982560:=0
noncomputable def tw17843674593743886426:=0
noncomputable def tw17896123885272386207:=0
noncomputable def tw17917153920278222460:=0
noncomputable def tw17925890265059373516:=0
noncomputable def tw17965198161383576650:=0
noncomputable def tw18021512108804043863:=0
noncomputable def tw18064521443034030172:=0
noncomputable def tw1814250473230431379:=0
noncomputable def tw18255129267824042240:=0
noncomputable def tw18358472761713654810:=0
noncomputable def tw185261098131713897:=0
noncomputable def tw1871780707567946242:=0
noncomputable def tw1881893403693781815:=0
noncomputable def tw1884432247586985593:=0
noncomputable def tw1897091481947501095:=0
noncomputable def tw191374145196971425:=0
noncomputable def tw1964767587333881379:=0
noncomputable def tw2005299706330382335:=0
noncomputable def tw2012696157180073741:=0
noncomputable def tw2102966425559233898:=0
noncomputable def tw2113045771912833570:=0
noncomputable def tw2140598169804314945:=0
noncomputable def tw2143995467455247833:=0
noncomputable def tw216086668577108329:=0
noncomputable def tw2179346622366310493:=0
noncomputable def tw2189311590457360019:=0
noncomputable def tw2296407246244150007:=0
noncomputable def tw2336197460750368657:=0
noncomputable def tw2375314775069708504:=0
noncomputable def tw2398528303956621450:=0
noncomputable def tw2417855505530302186:=0
noncomputable def tw2419181499682571290:=0
noncomputable def tw2463014970939376950:=0
noncomputable def tw255432321027120053:=0
noncomputable def tw2556634537600569461:=0
noncomputable def tw2566963595556521916:=0
noncomputable def tw258726501365335504:=0
noncomputable def tw2670290129673218700:=0
noncomputable def tw2677843216281705647:=0
noncomputable def tw2698432847739582623:=0
noncomputable def tw2714096775818719206:=0
noncomputable def tw2734545072821070267:=0
noncomputable def tw275623384706820019:=0
noncomputable def tw2772516590926885928:=0
noncomputable def tw2778341990120634789:=0
noncomputable def tw2838239624247539458:=0
noncomputable def tw2857972471885402297:=0
noncomputable def tw2893139796180843645:=0
noncomputable def tw2917447409286273651:=0
noncomputable def tw2932062447280957191:=0
noncomputable def tw2939581960180938725:=0
noncomputable def tw3011175122749738276:=0
noncomputable def tw3048509943701132067:=0
noncomputable def tw3086609011231957638:=0
noncomputable def tw3124969394429644554:=0
noncomputable def tw3126417274648083397:=0
noncomputable def tw3227620702528949191:=0
noncomputable def tw325137560825094444:=0
noncomputable def tw3339627073433392091:=0
noncomputable def tw3384726197330598742:=0
noncomputable def tw3520398265422723312:=0
noncomputable def tw3537625330547709652:=0
noncomputable def tw3707049194116623701:=0
noncomputable def tw3718136579623922546:=0
noncomputable def tw3719835045474498628:=0
noncomputable def tw3722469189988936990:=0
noncomputable def tw3727742174664595411:=0
noncomputable def tw3807412499277465648:=0
noncomputable def tw3816134919375598203:=0
noncomputable def tw3859285918541469389:=0
noncomputable def tw3872053763442909497:=0
noncomputable def tw3880590384950353875:=0
noncomputable def tw3897255146086973823:=0
noncomputable def tw3930326993136206839:=0
noncomputable def tw3989680610383068710:=0
noncomputable def tw4003809933587568850:=0
noncomputable def tw4038100246168626334:=0
noncomputable def tw4040635948660796402:=0
noncomputable def tw4090014749884023460:=0
noncomputable def tw4145589375806235899:=0
noncomputable def tw4187609511585036400:=0
noncomputable def tw4198085390405033332:=0
noncomputable def tw422586666285807181:=0
noncomputable def tw4227747235141689967:=0
noncomputable def tw4252865330828770394:=0
noncomputable def tw4283808245402559476:=0
noncomputable def tw4295504380751369486:=0
noncomputable def tw4333982102648180998:=0
noncomputable def tw438729341596276833:=0
noncomputable def tw4427135583086563340:=0
noncomputable def tw4539311197493626930:=0
noncomputable def tw458066188205098620:=0
noncomputable def tw4791455246273979205:=0
noncomputable def tw4813208091882465559:=0
noncomputable def tw4873905368567539420:=0
noncomputable def tw4891713883963818428:=0
noncomputable def tw4941889108356181631:=0
noncomputable def tw4949038866908363978:=0
noncomputable def tw4994001865057575956:=0
noncomputable def tw5078841306908222579:=0
noncomputable def tw5181623366984662088:=0
noncomputable def tw5260163498193543679:=0
noncomputable def tw5276046046940367446:=0
noncomputable def tw5340761195823119887:=0
noncomputable def tw5350116865797038198:=0
noncomputable def tw5584615739140117601:=0
noncomputable def tw5603863914647636510:=0
noncomputable def tw5785308224220990911:=0
noncomputable def tw5829887806514423821:=0
noncomputable def tw5864450904664756187:=0
noncomputable def tw5897907834213677565:=0
noncomputable def tw5898356067957472088:=0
noncomputable def tw5942624490834139130:=0
noncomputable def tw5957920904141432799:=0
noncomputable def tw5964313081582415193:=0
noncomputable def tw6010333187624558155:=0
noncomputable def tw6017102937060299920:=0
noncomputable def tw6052926614421087918:=0
noncomputable def tw610087541310233360:=0
noncomputable def tw6225637996541384481:=0
noncomputable def tw6270260286076173598:=0
noncomputable def tw6362980393206600168:=0
noncomputable def tw6651940209606203063:=0
noncomputable def tw6674465116522426049:=0
noncomputable def tw6678608153162983858:=0
noncomputable def tw6760137183638362276:=0
noncomputable def tw6805469361243142289:=0
noncomputable def tw6835305561304789320:=0
noncomputable def tw6896086302272088167:=0
noncomputable def tw6959325796333534859:=0
noncomputable def tw702254631697362143:=0
noncomputable def tw7045008434980436938:=0
noncomputable def tw7102136409759590572:=0
noncomputable def tw7148479700858407354:=0
noncomputable def tw7183030261751651435:=0
noncomputable def tw720445699862054825:=0
noncomputable def tw7255378833314215560:=0
noncomputable def tw7334142138792918793:=0
noncomputable def tw7404561429720339385:=0
noncomputable def tw7420858445530383792:=0
noncomputable def tw7482867390885767651:=0
noncomputable def tw7488969567648686199:=0
noncomputable def tw7621899041702615088:=0
noncomputable def tw7666006093323049034:=0
noncomputable def tw7680150964552539998:=0
noncomputable def tw7765638692596133311:=0
noncomputable def tw7795099690159827067:=0
noncomputable def tw783966050727255471:=0
noncomputable def tw7919386997198798589:=0
noncomputable def tw7984331977801461844:=0
noncomputable def tw8003260099353457081:=0
noncomputable def tw8029941741099204741:=0
noncomputable def tw8094408957663714711:=0
noncomputable def tw810961368733558493:=0
noncomputable def tw8133506733208803924:=0
noncomputable def tw8171258508809463099:=0
noncomputable def tw8188193171183783976:=0
noncomputable def tw8372893350526344171:=0
noncomputable def tw8382786474822783505:=0
noncomputable def tw8511295738671769650:=0
noncomputable def tw8561204250426941114:=0
noncomputable def tw8587499985627898297:=0
noncomputable def tw8597765329078891976:=0
noncomputable def tw8649810626954938886:=0
noncomputable def tw8725187265395773730:=0
noncomputable def tw8757627624802997196:=0
noncomputable def tw8773951245347316834:=0
noncomputable def tw880241979143696426:=0
noncomputable def tw8981013386234081352:=0
noncomputable def tw8999963997844800633:=0
noncomputable def tw9050221714752989421:=0
noncomputable def tw9079342798420278798:=0
noncomputable def tw9097510080418963467:=0
noncomputable def tw9145519618974851246:=0
noncomputable def tw915498562045644477:=0
noncomputable def tw9346909987684864407:=0
noncomputable def tw9364620770065394924:=0
noncomputable def tw9383825848464982073:=0
noncomputable def tw940582310901612774:=0
noncomputable def tw9509896013837283475:=0
noncomputable def tw9638188307283042968:=0
noncomputable def tw9713287680977495980:=0
noncomputable def tw9722823638722841424:=0
noncomputable def tw9768252084478123994:=0
noncomputable def tw9807917155879855743:=0
noncomputable def tw9897160302422818602:=0
noncomputable def tw9900685417719550058:=0
end PySem.W.Fast
open PySem PySem.W PyProof.Rows
set_option maxRecDepth 100000 in
set_option maxHeartbeats 0 in
theorem PySem.Challenge.cw_turnline_k14_more_standings_than_are_gon_holds : PySem.Challenge.rw_turnline_k14_more_standings_than_are_gon.Holds := by
 w_on;o_law;k_head;(case hw=>w_witness2)
 k_fill
 refine K14.walk (l:=PySem.Challenge.rw_turnline_k14_more_standings_than_are_gon) rfl rfl (λw h Y=>PySem.W.kIn_of Y) ?F
 case F=>
  intro w mg fa h KX G hmg
  refine' K14.all_mk KX G hmg ⟨?a1,?l1,?c1,?k1⟩ ⟨?a2,?l2,?c2,?k2⟩ ⟨?a3,?l3,?c3,?k3⟩ ⟨?a4,?l4,?c4,?k4⟩ ⟨?a5,?l5,?c5,?k5⟩ ⟨?a6,?l6,?c6,?k6⟩ ⟨?a7,?l7,?c7,?k7⟩ ⟨?a8,?l8,?c8,?k8⟩ ⟨?a9,?l9,?c9,?k9⟩ ⟨?a10,?l10,?c10,?k10⟩ ⟨?a11,?l11,?c11,?k11⟩ ⟨?a12,?l12,?c12,?k12⟩ ⟨?a13,?l13,?c13,?k13⟩ ⟨?a14,?l14,?c14,?k14⟩ ⟨?a15,?l15,?c15,?k15⟩ ⟨?a16,?l16,?c16,?k16⟩ ⟨?a17,?l17,?c17,?k17⟩ ⟨?a18,?l18,?c18,?k18⟩ ⟨?a19,?l19,?c19,?k19⟩ ⟨?a20,?l20,?c20,?k20⟩ ⟨?a21,?l21,?c21,?k21⟩ ⟨?a22,?l22,?c22,?k22⟩ ⟨?a23,?l23,?c23,?k23⟩ ⟨?a24,?l24,?c24,?k24⟩ ⟨?a25,?l25,?c25,?k25⟩ ⟨?a26,?l26,?c26,?k26⟩ ⟨?a27,?l27,?c27,?k27⟩ ⟨?a28,?l28,?c28,?k28⟩ ⟨?a29,?l29,?c29,?k29⟩ ⟨?a30,?l30,?c30,?k30⟩ ⟨?a31,?l31,?c31,?k31⟩ ⟨?a32,?l32,?c32,?k32⟩ ⟨?a33,?l33,?c33,?k33⟩ ⟨?a34,?l34,?c34,?k34⟩ ⟨?a35,?l35,?c35,?k35⟩ ⟨?a36,?l36,?c36,?k36⟩ ⟨?a37,?l37,?c37,?k37⟩ ⟨?a38,?l38,?c38,?k38⟩ ⟨?a39,?l39,?c39,?k39⟩ ⟨?a40,?l40,?c40,?k40⟩ ⟨?a41,?l41,?c41,?k41⟩ ⟨?a42,?l42,?c42,?k42⟩ ⟨?a43,?l43,?c43,?k43⟩ ?z1 ?z2 ?z3 ?z4 ?z5 ?z6 ?z7 ?z8 ?z9 ?z10 ?z11 ?z12 ?z13 ?z14 ?z15 ?z16 ?z17 ?z18 ?z19 ?ve ?xb0 ?xb1 ?xb2 ?xb3 ?xb4 ?xb5 ?xb6 ?xb7 ?xd1 ?xd2 ?xd3 ?xd4 ?xd5 ?xd6 ?xd7 ?xe1 ?xe2 ?xe3 ?xe4 ?xe5 ?xe6 ?xe7 ?nd ?xm2 ?ck0 ?wa ?wk
  case a1|l1|c1|k1|a2|l2|c2|k2|a3|l3|c3|k3|a4|l4|c4|k4|a5|l5|c5|k5|a6|l6|c6|k6|a7|l7|c7|k7|a8|l8|c8|k8|a9|l9|c9|k9|a10|l10|c10|k10|a11|l11|c11|k11|a12|l12|c12|k12|a13|l13|c13|k13|a14|l14|c14|k14|a15|l15|c15|k15|a16|l16|c16|k16|a17|l17|c17|k17|a18|l18|c18|k18|a19|l19|c19|k19|a20|l20|c20|k20|a21|l21|c21|k21|a22|l22|c22|k22|a23|l23|c23|k23|a24|l24|c24|k24|a25|l25|c25|k25|a26|l26|c26|k26|a27|l27|c27|k27|a28|l28|c28|k28|a29|l29|c29|k29|a30|l30|c30|k30|a31|l31|c31|k31|a32|l32|c32|k32|a33|l33|c33|k33|a34|l34|c34|k34|a35|l35|c35|k35|a36|l36|c36|k36|a37|l37|c37|k37|a38|l38|c38|k38|a39|l39|c39|k39|a40|l40|c40|k40|a41|l41|c41|k41|a42|l42|c42|k42|a43|l43|c43|k43|z1|z2|z3|z4|z5|z6|z7|z8|z9|z10|z11|z12|z13|z14|z15|z16|z17|z18|z19=>k_is
  (case ve=>k_is)
  (case xb0=>refine'⟨?u1,?u2,?u3,?u4,?u5,?u6,?u7,?u8,?u9⟩;(case u1=>k_is);(case u2=>k_exc);(case u3=>k_is);(case u4=>k_is);(case u5=>k_is);(case u6=>k_is);(case u7=>k_is);(case u8=>k_is);(case u9=>k_is))
  (case xb1=>refine'⟨?u1,?u2,?u3,?u4,?u5,?u6,?u7,?u8,?u9⟩;(case u1=>k_is);(case u2=>k_exc);(case u3=>k_is);(case u4=>k_is);(case u5=>k_is);(case u6=>k_is);(case u7=>k_is);(case u8=>k_is);(case u9=>k_is))
  (case xb2=>refine'⟨?u1,?u2,?u3,?u4,?u5,?u6,?u7,?u8,?u9⟩;(case u1=>k_is);(case u2=>k_exc);(case u3=>k_is);(case u4=>k_is);(case u5=>k_is);(case u6=>k_is);(case u7=>k_is);(case u8=>k_is);(case u9=>k_is))
  (case xb3=>refine'⟨?u1,?u2,?u3,?u4,?u5,?u6,?u7,?u8,?u9⟩;(case u1=>k_is);(case u2=>k_exc);(case u3=>k_is);(case u4=>k_is);(case u5=>k_is);(case u6=>k_is);(case u7=>k_is);(case u8=>k_is);(case u9=>k_is))
  (case xb4=>refine'⟨?u1,?u2,?u3,?u4,?u5,?u6,?u7,?u8,?u9⟩;(case u1=>k_is);(case u2=>k_exc);(case u3=>k_is);(case u4=>k_is);(case u5=>k_is);(case u6=>k_is);(case u7=>k_is);(case u8=>k_is);(case u9=>k_is))
  (case xb5=>refine'⟨?u1,?u2,?u3,?u4,?u5,?u6,?u7,?u8,?u9⟩;(case u1=>k_is);(case u2=>k_exc);(case u3=>k_is);(case u4=>k_is);(case u5=>k_is);(case u6=>k_is);(case u7=>k_is);(case u8=>k_is);(case u9=>k_is))
  (case xb6=>refine'⟨?u1,?u2,?u3,?u4,?u5,?u6,?u7,?u8,?u9⟩;(case u1=>k_is);(case u2=>k_exc);(case u3=>k_is);(case u4=>k_is);(case u5=>k_is);(case u6=>k_is);(case u7=>k_is);(case u8=>k_is);(case u9=>k_is))
  (case xb7=>refine'⟨?u1,?u2,?u3,?u4,?u5,?u6,?u7,?u8,?u9⟩;(case u1=>k_is);(case u2=>k_exc);(case u3=>k_is);(case u4=>k_is);(case u5=>k_is);(case u6=>k_is);(case u7=>k_is);(case u8=>k_is);(case u9=>k_is))
  (case xd1=>refine'⟨?u1,?u2⟩;(case u1=>k_is);(case u2=>k_is))
  (case xd2=>refine'⟨?u1,?u2⟩;(case u1=>k_is);(case u2=>k_is))
  (case xd3=>refine'⟨?u1,?u2⟩;(case u1=>k_is);(case u2=>k_is))
  (case xd4=>refine'⟨?u1,?u2⟩;(case u1=>k_is);(case u2=>k_is))
  (case xd5=>refine'⟨?u1,?u2⟩;(case u1=>k_is);(case u2=>k_is))
  (case xd6=>refine'⟨?u1,?u2⟩;(case u1=>k_is);(case u2=>k_is))
  (case xd7=>refine'⟨?u1,?u2⟩;(case u1=>k_is);(case u2=>k_is))
  (case xe1=>refine'⟨?u1,?u2,?u3,?u4,?u5,?u6⟩;(case u1=>k_is);(case u2=>k_is);(case u3=>k_is);(case u4=>k_is);(case u5=>k_is);(case u6=>k_is))
  (case xe2=>refine'⟨?u1,?u2,?u3,?u4,?u5,?u6⟩;(case u1=>k_is);(case u2=>k_is);(case u3=>k_is);(case u4=>k_is);(case u5=>k_is);(case u6=>k_is))
  (case xe3=>refine'⟨?u1,?u2,?u3,?u4,?u5,?u6⟩;(case u1=>k_is);(case u2=>k_is);(case u3=>k_is);(case u4=>k_is);(case u5=>k_is);(case u6=>k_is))
  (case xe4=>refine'⟨?u1,?u2,?u3,?u4,?u5,?u6⟩;(case u1=>k_is);(case u2=>k_is);(case u3=>k_is);(case u4=>k_is);(case u5=>k_is);(case u6=>k_is))
  (case xe5=>refine'⟨?u1,?u2,?u3,?u4,?u5,?u6⟩;(case u1=>k_is);(case u2=>k_is);(case u3=>k_is);(case u4=>k_is);(case u5=>k_is);(case u6=>k_is))
  (case xe6=>refine'⟨?u1,?u2,?u3,?u4,?u5,?u6⟩;(case u1=>k_is);(case u2=>k_is);(case u3=>k_is);(case u4=>k_is);(case u5=>k_is);(case u6=>k_is))
  (case xe7=>refine'⟨?u1,?u2,?u3,?u4,?u5,?u6⟩;(case u1=>k_is);(case u2=>k_is);(case u3=>k_is);(case u4=>k_is);(case u5=>k_is);(case u6=>k_is))
  (case nd=>decide)
  (case xm2=>k_is)
  (case ck0=>k_is)
  (case wa=>k_is)
  (case wk=>first |k_is |rfl)
